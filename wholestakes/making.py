"""Tracks made of tracks."""

from wholestakes.checks import check_place
from wholestakes.errors import NoNames, NoPay
from wholestakes.kinds import is_letter, is_within
from wholestakes.tracks import MOST_PAY, arrow, made_track, reached


def part(track, place):
    """The track of the places that can be come to from a place, numbered anew in their order."""
    kept = reached(track, place)
    numbers = {old: new for new, old in enumerate(kept)}
    arrows = [
        (numbers[start], letter, pay, numbers[to])
        for start, letter, pay, to in track.arrows
        if start in numbers
    ]
    return made_track(len(kept), arrows)


def side(one, other):
    """The track of the places of the one and, behind them, those of the other."""
    behind = one.places
    moved = [(start + behind, letter, pay, to + behind) for start, letter, pay, to in other.arrows]
    return made_track(behind + other.places, [*one.arrows, *moved])


def renamed(track, names):
    """The track with other letters, told by a dict from exactly its letters to unlike ones."""
    if not are_names(track, names):
        raise NoNames()
    arrows = [(start, names[letter], pay, to) for start, letter, pay, to in track.arrows]
    return made_track(track.places, arrows)


def are_names(track, thing):
    if not isinstance(thing, dict):
        return False
    used = sorted({found[1] for found in track.arrows})
    if len(thing) != len(used) or not all([letter in thing for letter in used]):
        return False
    # Only what is known to be letters may be a member of a set.
    given = list(thing.values())
    return all([is_letter(name) for name in given]) and len(set(given)) == len(given)


def paid(track, place, letter, pay):
    """The track in which a letter pays so much at a place."""
    _, to = arrow(track, place, letter)
    if not is_within(pay, 0, MOST_PAY):
        raise NoPay()
    others = [found for found in track.arrows if found[:2] != (place, letter)]
    return made_track(track.places, [*others, (place, letter, pay, to)])


def twin(track, place):
    """The track with one place more, from which the same arrows lead as from a place."""
    check_place(track, place)
    more = [(track.places, letter, pay, to) for start, letter, pay, to in track.arrows if start == place]
    return made_track(track.places + 1, [*track.arrows, *more])
