"""Tracks: which letters can come at each place, what they pay, and where they lead."""

from wholestakes.checks import check_place
from wholestakes.errors import BadTrack, NoLetter
from wholestakes.kinds import is_letter, is_rising, is_within

MOST_PLACES = 12
MOST_ARROWS = 60
MOST_PAY = 9


class Track:
    """Places, numbered from 0, and arrows (place, letter, pay, place)."""

    def __init__(self, places, arrows):
        wrong = wrong_part(places, arrows)
        if wrong is not None:
            raise BadTrack(wrong)
        self.places = places
        self.arrows = arrows

    def __eq__(self, other):
        return isinstance(other, Track) and self.places == other.places and self.arrows == other.arrows


def wrong_part(places, arrows):
    """The first part of a track that is not as told, None if all are."""
    if not is_within(places, 1, MOST_PLACES):
        return "places"
    if not are_arrows(places, arrows):
        return "arrows"
    if len({found[:2] for found in arrows}) < len(arrows):
        return "twice"
    if len({found[0] for found in arrows}) < places:
        return "stuck"
    return None


def are_arrows(places, thing):
    if not isinstance(thing, tuple) or not 1 <= len(thing) <= MOST_ARROWS:
        return False
    # Arrows can be compared only once each of them is known to be one.
    return all([is_arrow(places, found) for found in thing]) and is_rising(thing)


def is_arrow(places, thing):
    if not isinstance(thing, tuple) or len(thing) != 4:
        return False
    start, letter, pay, to = thing
    if not is_within(start, 0, places - 1) or not is_within(to, 0, places - 1):
        return False
    return is_letter(letter) and is_within(pay, 0, MOST_PAY)


def made_track(places, arrows):
    """A track of any size, of right arrows in any order: only callers are held to the sizes."""
    track = Track(1, ((0, "a", 0, 0),))
    track.places = places
    track.arrows = tuple(sorted(arrows))
    return track


def ways_of(track):
    """For each place a dict from its letters, added in ascending order, to pairs (pay, place)."""
    ways = [{} for _ in range(track.places)]
    for start, letter, pay, to in track.arrows:
        ways[start][letter] = (pay, to)
    return ways


def letters(track, place):
    """The ascending text of the letters that can come at a place."""
    check_place(track, place)
    return "".join(list(ways_of(track)[place]))


def arrow(track, place, letter):
    """The pair (pay, place) of a letter at a place."""
    check_place(track, place)
    moves = ways_of(track)[place]
    if not is_letter(letter) or letter not in moves:
        raise NoLetter()
    return moves[letter]


def reached(track, place):
    """The ascending tuple of the places that can be come to from a place."""
    check_place(track, place)
    ways = ways_of(track)
    seen = {place: True}
    level = [place]
    while level:
        ahead = []
        for here in level:
            for _, to in ways[here].values():
                if to not in seen:
                    seen[to] = True
                    ahead.append(to)
        level = ahead
    return tuple(sorted(seen))
