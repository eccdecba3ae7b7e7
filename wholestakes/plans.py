"""Plans: stakes for what the bettor has and where it is, by which a goal is surely come to."""

from wholestakes.checks import is_place
from wholestakes.errors import NoPlan
from wholestakes.kinds import is_coins
from wholestakes.laying import keep_any, laid_on, wanted
from wholestakes.reaching import letters_left, levels_to, surroundings
from wholestakes.stakes import is_laid, paid_out
from wholestakes.times import check_aim
from wholestakes.tracks import reached, ways_of


def plan(track, place, coins, goal):
    """A plan, a dict from pairs (place, coins) to stakes; None if there is none."""
    check_aim(track, place, coins, goal)
    near = reached(track, place)
    ways, at = surroundings(track, place)
    levels = levels_to(ways, at, coins, goal)
    if levels is None:
        return None
    stakes = {}
    waiting = [(at, coins)]
    while waiting:
        here, has = waiting.pop()
        if has < goal and (near[here], has) not in stakes:
            stake = stake_toward(ways, levels, here, has)
            stakes[(near[here], has)] = stake
            waiting.extend([(to, behind) for _, behind, to in paid_out(ways[here], has, stake)])
    return stakes


def stake_toward(ways, levels, place, coins):
    """A stake by which the goal of some levels is come to within the fewest letters; there must be fewer coins."""
    wants = wanted(ways[place], levels[letters_left(levels, place, coins) - 1])
    _, kept = keep_any(wants)
    return tuple(laid_on(wants, kept))


def is_plan(track, place, coins, goal, thing):
    """Whether a thing is a plan."""
    check_aim(track, place, coins, goal)
    return letters_by(track, place, coins, goal, thing) is not None


def plan_letters(track, place, coins, goal, plan):
    """The greatest number of letters behind which a bettor who goes by a plan first has the goal."""
    check_aim(track, place, coins, goal)
    letters = letters_by(track, place, coins, goal, plan)
    if letters is None:
        raise NoPlan()
    return letters


def letters_by(track, place, coins, goal, thing):
    """The greatest number of letters up to the goal by what may be a plan, None if it is none."""
    if not isinstance(thing, dict):
        return None
    if coins >= goal:
        return 0
    ahead = plays_by(ways_of(track), (place, coins), goal, told_stakes(track, thing))
    return None if ahead is None else longest(ahead)


def told_stakes(track, thing):
    """The part of a dict whose keys are pairs (place, coins)."""
    return {key: stake for key, stake in thing.items() if is_position(track, key)}


def is_position(track, thing):
    return isinstance(thing, tuple) and len(thing) == 2 and is_place(track, thing[0]) and is_coins(thing[1])


def plays_by(ways, start, goal, stakes):
    """A dict from each pair (place, coins) that can be come to, with fewer coins than the goal, to the list of those
    behind it; None where there is no stake for one.
    """
    ahead = {}
    waiting = [start]
    while waiting:
        here = waiting.pop()
        if here not in ahead:
            place, coins = here
            if here not in stakes or not is_laid(ways[place], coins, stakes[here]):
                return None
            paid = paid_out(ways[place], coins, stakes[here])
            ahead[here] = [(to, behind) for _, behind, to in paid if behind < goal]
            waiting.extend(ahead[here])
    return ahead


def longest(ahead):
    """The greatest number of steps on a way through a dict of lists, None if some way goes round."""
    before = {here: [] for here in ahead}
    left = {here: len(found) for here, found in ahead.items()}
    for here, found in ahead.items():
        for to in found:
            before[to].append(here)
    level = [here for here in ahead if left[here] == 0]
    steps = 0
    while level:
        steps += 1
        behind = []
        for to in level:
            for here in before[to]:
                left[here] -= 1
                if left[here] == 0:
                    behind.append(here)
        level = behind
    return None if any([count > 0 for count in left.values()]) else steps
