"""Stakes: coins laid on each letter that can come."""

from wholestakes.checks import check_coins, check_place
from wholestakes.errors import NoLetter, NoLot, NoPlace, NoStake
from wholestakes.kinds import is_coins, is_integer, is_letter
from wholestakes.lots import is_full
from wholestakes.tracks import ways_of


def is_laid(moves, coins, thing):
    """Whether a thing is a stake for such moves, by which at most so many coins are laid."""
    if not isinstance(thing, tuple) or len(thing) != len(moves):
        return False
    return all([is_coins(laid) for laid in thing]) and sum(thing) <= coins


def paid_out(moves, coins, stake):
    """The list of the triples (letter, coins, place) for all letters of such moves."""
    kept = coins - sum(stake)
    found = []
    for at, (letter, (pay, to)) in enumerate(moves.items()):
        found.append((letter, kept + pay * stake[at], to))
    return found


def is_stake(track, place, coins, thing):
    """Whether a thing is a stake at a place by which at most so many coins are laid."""
    check_place(track, place)
    check_coins(coins)
    return is_laid(ways_of(track)[place], coins, thing)


def outcomes(track, place, coins, stake):
    """The list of the triples (letter, coins, place) for all letters that can come."""
    if not is_stake(track, place, coins, stake):
        raise NoStake()
    return paid_out(ways_of(track)[place], coins, stake)


def outcome(track, place, coins, stake, letter):
    """The pair (coins, place) behind a letter."""
    found = {come: (behind, to) for come, behind, to in outcomes(track, place, coins, stake)}
    if not is_letter(letter) or letter not in found:
        raise NoLetter()
    return found[letter]


def answer(track, lot, place, coins, stake):
    """The least letter back into a full lot behind which there are no more coins than before."""
    if not is_full(track, lot):
        raise NoLot()
    if not is_integer(place) or place not in lot:
        raise NoPlace()
    for letter, behind, to in outcomes(track, place, coins, stake):
        if to in lot and behind <= coins:
            return letter
    return None
