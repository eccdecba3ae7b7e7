"""Growing with a limit to what may be laid at once."""

from wholestakes.checks import MOST_LIMIT, check_limit, check_place
from wholestakes.errors import TooMany
from wholestakes.growing import is_table
from wholestakes.limiting import limited, within
from wholestakes.lots import hopeful
from wholestakes.reaching import settled, surroundings
from wholestakes.tables import table_for
from wholestakes.tracks import ways_of


def least_coins_within(track, limit):
    """For each place the least coins with which the bettor grows within a limit, or None."""
    check_limit(limit)
    least, _ = limited(ways_of(track), limit)
    return tuple(least)


def table_within(track, limit):
    """A table with these coins, all stakes of which lay at most the limit."""
    return table_for(ways_of(track), least_coins_within(track, limit), within(limit))


def is_table_within(track, limit, thing):
    """Whether a thing is a table all stakes of which lay at most the limit."""
    check_limit(limit)
    return is_table(track, thing) and all([entry is None or sum(entry[2]) <= limit for entry in thing])


def least_limit(track, place):
    """The least limit within which the bettor grows from a place with some coins, None if it does with none."""
    check_place(track, place)
    if place not in hopeful(track):
        return None
    found = first_limit(track, place)
    if found is None:
        raise TooMany(MOST_LIMIT)
    return found


def first_limit(track, place):
    """The least limit within which the bettor grows from a place, None if there is none."""
    ways, at = surroundings(track, place)
    low = 0
    high = MOST_LIMIT + 1
    while low < high:
        half = (low + high) // 2
        least, _ = limited(ways, half)
        if least[at] is not None:
            high = half
        else:
            low = half + 1
    return low if low <= MOST_LIMIT else None


def limit_steps(track, place):
    """The ascending list of the pairs (limit, coins) of the limits for which the coins are other than for one less."""
    check_place(track, place)
    first = first_limit(track, place)
    if first is None:
        return []
    ways, at = surroundings(track, place)
    coins, _ = limited(ways, first)
    steps = [(first, coins[at])]
    for limit in range(first + 1, MOST_LIMIT + 1):
        # What was enough within a lesser limit is enough within this one.
        coins = settled(ways, coins, within(limit))
        if coins[at] < steps[-1][1]:
            steps.append((limit, coins[at]))
    return steps
