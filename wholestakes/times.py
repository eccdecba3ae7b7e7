"""What can be sure behind so many letters, and how soon."""

from wholestakes.checks import check_coins, check_number, check_place
from wholestakes.errors import TooMany
from wholestakes.goals import check_goals
from wholestakes.growing import grows
from wholestakes.laying import wanted
from wholestakes.lots import WHOLE
from wholestakes.parts import fraction, least_parts
from wholestakes.reaching import after, in_the_end, levels_to, surroundings
from wholestakes.tracks import ways_of

MOST_LETTERS = 60
MOST_GOAL = 1000


def least_after(track, goals, length):
    """For each place the least coins with which the goals are sure behind exactly so many letters."""
    check_goals(track, goals)
    check_number(length, MOST_LETTERS)
    return tuple(after(ways_of(track), goals, length))


def parts_after(track, goals, length):
    """For each place the least amount for this, a fraction, with parts of coins."""
    check_goals(track, goals)
    check_number(length, MOST_LETTERS)
    return tuple(amounts_after(ways_of(track), goals, length))


def amounts_after(ways, goals, length):
    tops = [0 if goal is None else goal for goal in goals]
    bottom = 1
    for _ in range(length):
        tops = [least_parts(wanted(moves, tops)) for moves in ways]
        bottom *= WHOLE
    return [fraction(top, bottom) for top in tops]


def least_within(track, goal, length):
    """For each place the least coins with which the goal is sure at some time, behind at most so many letters."""
    check_coins(goal)
    check_number(length, MOST_LETTERS)
    # Who has the goal early can keep it to the end.
    return tuple(after(ways_of(track), (goal,) * track.places, length))


def sure_after(track, place, coins, length):
    """The greatest number of coins that is sure behind exactly so many letters."""
    check_place(track, place)
    check_coins(coins)
    top, bottom = factor(track, place, length)
    ways, at = surroundings(track, place)
    return greatest(coins * top // bottom, lambda goal: after(ways, [goal] * len(ways), length)[at] <= coins)


def factor(track, place, length):
    """The greatest fraction by which each amount can surely be multiplied, with parts of coins."""
    check_place(track, place)
    check_number(length, MOST_LETTERS)
    ways, at = surroundings(track, place)
    top, bottom = amounts_after(ways, [1] * len(ways), length)[at]
    return bottom, top


def greatest(most, holds):
    """The greatest number, not above the most, for which something holds that holds for 0 and for each lesser one.

    It is looked for near the most.
    """
    low = most
    step = 1
    while not holds(low):
        most = low - 1
        low = max(0, low - step)
        step *= 2
    while low < most:
        half = (low + most + 1) // 2
        if holds(half):
            low = half
        else:
            most = half - 1
    return low


def soonest(track, place, coins, goal):
    """The least number of letters for which the coins are enough to have the goal, None if there is none."""
    check_aim(track, place, coins, goal)
    ways, at = surroundings(track, place)
    levels = levels_to(ways, at, coins, goal)
    return None if levels is None else len(levels) - 1


def check_aim(track, place, coins, goal):
    check_place(track, place)
    check_coins(coins)
    check_coins(goal)
    if goal > MOST_GOAL:
        raise TooMany(MOST_GOAL)


def peak(track, place, coins):
    """The greatest number of coins that is sure at some time, None if there is no greatest."""
    check_place(track, place)
    check_coins(coins)
    ways, at = surroundings(track, place)
    if in_the_end(ways, MOST_GOAL + 1)[at] <= coins:
        if grows(track, place, coins):
            return None
        raise TooMany(MOST_GOAL)
    return greatest(MOST_GOAL, lambda goal: in_the_end(ways, goal)[at] <= coins)
