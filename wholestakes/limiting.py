"""Least coins and slopes for a limit: each place has just one of both."""

from wholestakes.laying import keep_any, keep_within
from wholestakes.reaching import settled


def limited(ways, limit):
    """The pair (coins, heights) of lists with, for each place, the least coins or None, and None or an integer, which
    are a slope.
    """
    goal = limit + 2
    while True:
        coins = settled(ways, [goal] * len(ways), within(limit))
        # What the coins miss to the goal is a slope where the bettor does not grow, if the goal is far enough.
        heights = steepest(ways, limit, [goal - enough for enough in coins])
        least = [coins[place] if heights[place] is None else None for place in range(len(ways))]
        if all([grows_apart(moves, least, goal) for moves, enough in zip(ways, least) if enough is not None]):
            return least, heights
        goal *= 2


def within(limit):
    """The way to keep if at most a limit may be laid."""
    return lambda wants: keep_within(wants, limit)


def grows_apart(moves, least, goal):
    """Whether all letters lead to places with least coins, which are fewer than the goal."""
    return all([least[to] is not None and least[to] < goal for _, to in moves.values()])


def steepest(ways, limit, heights):
    """The heights without those, None then, that are not held by the others."""
    found = list(heights)
    loose = [place for place in range(len(ways)) if not is_held(ways[place], found, place, limit)]
    while loose:
        for place in loose:
            found[place] = None
        left = [place for place in range(len(ways)) if found[place] is not None]
        loose = [place for place in left if not is_held(ways[place], found, place, limit)]
    return found


def is_held(moves, heights, place, limit):
    """Whether whatever is laid at a place, some letter leads to a height, and together with it not above the height
    there.
    """
    # With coins just as many as the limit the bettor can lay whatever is allowed, and nothing else.
    wants = [
        (pay, 0 if heights[to] is None else max(0, limit + heights[place] + 1 - heights[to]))
        for pay, to in moves.values()
    ]
    enough, _ = keep_any(wants)
    return enough > limit
