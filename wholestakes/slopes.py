"""Slopes, by which the house holds down a bettor with a limit."""

from wholestakes.checks import check_limit, check_place
from wholestakes.kinds import is_integer
from wholestakes.limiting import is_held, limited
from wholestakes.tracks import ways_of


def is_slope(track, limit, thing):
    """Whether a thing is a slope for a limit."""
    check_limit(limit)
    if not isinstance(thing, tuple) or len(thing) != track.places:
        return False
    if not all([height is None or is_integer(height) for height in thing]):
        return False
    with_heights = [place for place in range(track.places) if thing[place] is not None]
    ways = ways_of(track)
    return len(with_heights) > 0 and all([is_held(ways[place], thing, place, limit) for place in with_heights])


def slope(track, limit, place):
    """A slope with an integer for a place, None if there is none."""
    check_limit(limit)
    check_place(track, place)
    _, heights = limited(ways_of(track), limit)
    return tuple(heights) if heights[place] is not None else None
