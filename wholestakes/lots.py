"""Full lots, hopeful places and ranks."""

from wholestakes.checks import check_place, is_place
from wholestakes.errors import TooMany
from wholestakes.kinds import is_rising
from wholestakes.paths import row_down, steps_to
from wholestakes.tracks import ways_of

MOST_LISTED = 12

# The reciprocals of all pays are told in parts of this: it can be divided by each pay from 1 to 9.
WHOLE = 2520


def reciprocal(pay):
    return WHOLE // max(pay, 1)


def inside(moves, lot):
    """What the reciprocals of the letters that lead to places of a lot, a dict, come to."""
    return sum([reciprocal(pay) for pay, to in moves.values() if to in lot])


def is_lot(track, thing):
    """Whether a thing is a lot, full or not."""
    if not isinstance(thing, tuple) or len(thing) == 0:
        return False
    return all([is_place(track, place) for place in thing]) and is_rising(thing)


def is_full(track, thing):
    """Whether a thing is a full lot."""
    if not is_lot(track, thing):
        return False
    ways = ways_of(track)
    lot = {place: True for place in thing}
    return len(short_places(ways, lot)) == 0


def ranks(track):
    """For each place the number of the turn in which it is struck, or None."""
    ways = ways_of(track)
    found = [None] * track.places
    left = {place: True for place in range(track.places)}
    turn = 1
    struck = short_places(ways, left)
    while struck:
        for place in struck:
            found[place] = turn
            del left[place]
        turn += 1
        struck = short_places(ways, left)
    return tuple(found)


def short_places(ways, lot):
    """The places of a lot, a dict, at which the letters that lead back into it come to less than one."""
    return [place for place in lot if inside(ways[place], lot) < WHOLE]


def greatest_full(track):
    """The greatest full lot, () if there is none."""
    found = ranks(track)
    return tuple([place for place in range(track.places) if found[place] is None])


def least_fulls(track):
    """The ascending list of the full lots of which no other full lot is a part."""
    if track.places > MOST_LISTED:
        raise TooMany(MOST_LISTED)
    shares = [[(1 << to, reciprocal(pay)) for pay, to in moves.values()] for moves in ways_of(track)]
    least = []
    # Lots are told by their bits: each part of a lot is a smaller number than the lot.
    for bits in range(1, 1 << track.places):
        if not any([small & bits == small for small in least]) and is_full_bits(shares, bits):
            least.append(bits)
    return sorted([lot_of(bits, track.places) for bits in least])


def lot_of(bits, places):
    return tuple([place for place in range(places) if bits >> place & 1])


def is_full_bits(shares, bits):
    for place in range(len(shares)):
        if bits >> place & 1 and sum([share for bit, share in shares[place] if bit & bits]) < WHOLE:
            return False
    return True


def hopeful(track):
    """The ascending tuple of the places from which no place of a full lot can be come to."""
    steps = steps_to(ways_of(track), greatest_full(track))
    return tuple([place for place in range(track.places) if steps[place] is None])


def row_to_full(track, place):
    """The least of the shortest rows to a place of the greatest full lot, None if the place is hopeful."""
    check_place(track, place)
    ways = ways_of(track)
    steps = steps_to(ways, greatest_full(track))
    if steps[place] is None:
        return None
    return row_down(ways, place, steps)
