"""Stakes: coins laid on each letter that can come."""

from wholestakes.checks import check_coins, check_place
from wholestakes.errors import NoLetter, NoLot, NoPlace, NoStake
from wholestakes.kinds import is_coins, is_integer, is_letter
from wholestakes.lots import is_full
from wholestakes.tracks import ways_of


def is_stake(track, place, coins, thing):
    """Whether a thing is a stake at a place by which at most so many coins are laid."""
    check_place(track, place)
    check_coins(coins)
    if not isinstance(thing, tuple) or len(thing) != len(ways_of(track)[place]):
        return False
    return all([is_coins(laid) for laid in thing]) and sum(thing) <= coins


def check_stake(track, place, coins, stake):
    if not is_stake(track, place, coins, stake):
        raise NoStake()


def outcomes(track, place, coins, stake):
    """The list of the triples (letter, coins, place) for all letters that can come."""
    check_stake(track, place, coins, stake)
    kept = coins - sum(stake)
    found = []
    for at, (letter, (pay, to)) in enumerate(ways_of(track)[place].items()):
        found.append((letter, kept + pay * stake[at], to))
    return found


def outcome(track, place, coins, stake, letter):
    """The pair (coins, place) behind a letter."""
    found = {come: (behind, to) for come, behind, to in outcomes(track, place, coins, stake)}
    if not is_letter(letter) or letter not in found:
        raise NoLetter()
    return found[letter]


def answer(track, lot, place, coins, stake):
    """The least letter back into a full lot behind which there are no more coins than before."""
    if not is_full(track, lot):
        raise NoLot()
    if not is_integer(place) or place not in lot:
        raise NoPlace()
    for letter, behind, to in outcomes(track, place, coins, stake):
        if to in lot and behind <= coins:
            return letter
    return None
