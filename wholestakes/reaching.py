"""The least coins with which goals can surely be come to, letter by letter and in the end."""

from wholestakes.laying import keep_any, wanted
from wholestakes.making import part
from wholestakes.tracks import reached, ways_of


def surroundings(track, place):
    """The ways of the places that can be come to from a place, and the number of the place among these."""
    return ways_of(part(track, place)), reached(track, place).index(place)


def needed(ways, goals):
    """For each place the least coins with which the goals are met behind the next letter."""
    found = []
    for moves in ways:
        coins, _ = keep_any(wanted(moves, goals))
        found.append(coins)
    return found


def after(ways, goals, length):
    """For each place the least coins with which the goals are met behind so many letters."""
    found = [0 if goal is None else goal for goal in goals]
    for _ in range(length):
        found = needed(ways, found)
    return found


def levels_to(ways, place, coins, goal):
    """For each number of letters, up to the least for which the coins are enough at a place, a list of the coins that
    are needed at each place to have the goal within so many; None if the coins never are enough.
    """
    levels = [[goal] * len(ways)]
    while levels[-1][place] > coins:
        behind = needed(ways, levels[-1])
        if behind == levels[-1]:
            return None
        levels.append(behind)
    return levels


def letters_left(levels, place, coins):
    """The least number of letters for which so many coins are enough at a place; for the greatest one they must be."""
    low = 0
    high = len(levels) - 1
    while low < high:
        half = (low + high) // 2
        if levels[half][place] <= coins:
            high = half
        else:
            low = half + 1
    return low


def before_of(ways):
    """For each place the list of the places from which a letter leads to it."""
    before = [{} for _ in ways]
    for here, moves in enumerate(ways):
        for _, to in moves.values():
            before[to][here] = True
    return [list(found) for found in before]


def settled(ways, start, keep):
    """The greatest coins for the places, none above those at the start, of which none is more than what is needed.

    What is needed at a place is what keep tells to be enough to have the coins of the next place behind each letter.
    Places with None at the start are left out: none of the others may lead to them.
    """
    coins = list(start)
    before = before_of(ways)
    level = [place for place in range(len(ways)) if coins[place] is not None]
    while level:
        ahead = {}
        for place in level:
            least, _ = keep(wanted(ways[place], coins))
            if least < coins[place]:
                coins[place] = least
                for other in before[place]:
                    if coins[other] is not None:
                        ahead[other] = True
        level = list(ahead)
    return coins


def in_the_end(ways, goal):
    """For each place the least coins with which the goal can surely be had at some time."""
    return settled(ways, [goal] * len(ways), keep_any)
