"""Growing with a fee that is given away behind each letter."""

from wholestakes.capping import caps_below, caps_toward, holds_down
from wholestakes.checks import check_coins, check_place
from wholestakes.errors import NoFee
from wholestakes.growing import is_table_less
from wholestakes.holding import has_caps
from wholestakes.kinds import is_within
from wholestakes.laying import keep_any
from wholestakes.lots import greatest_full, hopeful
from wholestakes.reaching import surroundings
from wholestakes.tables import are_enough, growing_coins, table_for
from wholestakes.tracks import ways_of

MOST_FEE = 100


def check_fee(fee):
    if not is_within(fee, 0, MOST_FEE):
        raise NoFee()


def less(fee):
    """The way to keep with a fee: it tells the pair (coins, left), left being what is kept without the fee."""
    return lambda wants: keep_less(wants, fee)


def keep_less(wants, fee):
    # What is laid depends only on what goals are above what is kept: the fee may be added there or taken off here.
    coins, kept = keep_any([(pay, goal + fee) for pay, goal in wants])
    return coins, kept - fee


def least_with_fee(track, fee):
    """For each place the least coins with which the bettor grows with a fee, or None."""
    check_fee(fee)
    return tuple(growing_coins(ways_of(track), hopeful(track), less(fee)))


def table_with_fee(track, fee):
    """A table with these coins, if the fee is given behind each letter."""
    return table_for(ways_of(track), least_with_fee(track, fee), less(fee))


def is_table_with_fee(track, fee, thing):
    """Whether a thing is a table if the fee is given behind each letter."""
    check_fee(fee)
    return is_table_less(track, thing, fee)


def is_caps_with_fee(track, fee, thing):
    """Whether a thing is caps if the fee is given behind each letter."""
    check_fee(fee)
    return has_caps(track, thing) and holds_down(ways_of(track), thing, less(fee))


def caps_with_fee(track, fee, place, coins):
    """Such caps with so many coins or more for a place, None if there are none."""
    check_fee(fee)
    check_place(track, place)
    check_coins(coins)
    if place not in hopeful(track):
        return caps_toward(ways_of(track), greatest_full(track), coins)
    least = least_with_fee(track, fee)
    return caps_below(least) if coins < least[place] else None


def greatest_fee(track, place, coins):
    """The greatest fee with which the bettor grows from a place with so many coins, None if there is none."""
    check_place(track, place)
    check_coins(coins)
    if place not in hopeful(track):
        return None
    ways, at = surroundings(track, place)
    low = -1
    high = MOST_FEE
    # What is enough with a fee is enough with each lesser one.
    while low < high:
        half = (low + high + 1) // 2
        if are_enough(ways, at, coins, less(half)):
            low = half
        else:
            high = half - 1
    return low if low >= 0 else None
