"""Fair chances of letters: by them no bettor has more coins in the mean than at first."""

from wholestakes.checks import check_coins, check_number
from wholestakes.errors import NoChances, NoLot, NoPlace
from wholestakes.kinds import is_integer
from wholestakes.lots import WHOLE, is_full, is_lot, reciprocal
from wholestakes.parts import added, fraction, is_fraction
from wholestakes.stakes import paid_out
from wholestakes.strangers import check_rows, given
from wholestakes.tracks import ways_of

MOST_MEAN = 8


def check_lot(track, lot):
    if not is_lot(track, lot):
        raise NoLot()


def is_fair(track, lot, thing):
    """Whether a thing is fair chances for a lot."""
    check_lot(track, lot)
    if not isinstance(thing, tuple) or len(thing) != len(lot):
        return False
    ways = ways_of(track)
    return all([is_fair_there(ways[place], lot, told) for place, told in zip(lot, thing)])


def is_fair_there(moves, lot, thing):
    """Whether a thing is fair chances for a place with such moves."""
    if not isinstance(thing, tuple) or len(thing) != len(moves):
        return False
    # Fractions can be counted with only once each of them is known to be one.
    if not all([is_fraction(told) for told in thing]) or added(thing) != (1, 1):
        return False
    return all([
        top * pay <= bottom and (to in lot or top == 0)
        for (top, bottom), (pay, to) in zip(thing, list(moves.values()))
    ])


def fair(track, lot):
    """Fair chances for a lot, None if there are none."""
    check_lot(track, lot)
    if not is_full(track, lot):
        return None
    ways = ways_of(track)
    return tuple([fair_there(ways[place], lot) for place in lot])


def fair_there(moves, lot):
    """Fair chances for a place of a full lot: each letter gets all that it can have until nothing is left."""
    left = WHOLE
    found = []
    for pay, to in moves.values():
        share = min(reciprocal(pay), left) if to in lot else 0
        left -= share
        found.append(fraction(share, WHOLE))
    return tuple(found)


def mean_after(track, lot, chances, place, coins, bettor, length):
    """The mean of the coins of a bettor behind so many letters that come by fair chances."""
    if not is_fair(track, lot, chances):
        raise NoChances()
    if not is_integer(place) or place not in lot:
        raise NoPlace()
    check_coins(coins)
    check_number(length, MOST_MEAN)
    check_rows(track, place, length)
    ways = ways_of(track)
    told = {here: chances[at] for at, here in enumerate(lot)}
    level = [("", coins, place, (1, 1))]
    for _ in range(length):
        ahead = []
        for text, has, here, chance in level:
            paid = paid_out(ways[here], has, given(bettor, text, has, ways[here]))
            ahead.extend([
                (text + letter, more, to, fraction(chance[0] * top, chance[1] * bottom))
                for (letter, more, to), (top, bottom) in zip(paid, told[here])
                if top > 0
            ])
        level = ahead
    return added([fraction(has * top, bottom) for _, has, _, (top, bottom) in level])
