"""What several tests need: tracks, odd things, and slow answers by the words of the document."""

import random
from fractions import Fraction

from wholestakes.errors import BadTrack, NoPlace, StakeError
from wholestakes.making import side, twin
from wholestakes.tracks import Track

ONE = Track(1, ((0, "a", 2, 0), (0, "b", 2, 0)))
T = Track(2, ((0, "a", 3, 0), (0, "b", 2, 1), (1, "a", 4, 0), (1, "b", 3, 1)))
U = Track(2, ((0, "a", 3, 0), (0, "b", 2, 1), (1, "a", 4, 0), (1, "b", 0, 1)))
V = Track(3, ((0, "a", 3, 1), (0, "b", 3, 0), (1, "a", 2, 0), (1, "b", 0, 2), (2, "a", 5, 2), (2, "b", 2, 2)))
# From 0 one cannot come back: 0 -> 1 -> 2 <-> 3.
LINE = Track(4, ((0, "c", 1, 1), (0, "d", 0, 2), (1, "a", 9, 2), (2, "b", 1, 3), (3, "a", 7, 2)))


def drawn(seed, most_places=4, abc="abc"):
    """A track that is the same for each call with one seed."""
    draw = random.Random(seed)
    places = draw.randint(1, most_places)
    arrows = []
    for place in range(places):
        for letter in sorted(draw.sample(abc, draw.randint(1, len(abc)))):
            arrows.append((place, letter, draw.choice((0, 1, 2, 2, 3, 3, 4, 6, 9)), draw.randrange(places)))
    return Track(places, tuple(arrows))


DRAWN = tuple(drawn(seed) for seed in range(40))
TRACKS = (ONE, T, U, V, LINE) + DRAWN


def large():
    """A track with more than 12 places and more than 60 arrows."""
    track = side(side(V, U), side(drawn(3), LINE))
    track = side(track, side(track, side(drawn(11), track)))
    return twin(track, track.places - 1)


def nested(depth, kind):
    thing = kind
    for at in range(depth):
        thing = ((thing,), [thing], {"a": thing})[at % 3]
    return thing


def odd_things():
    """Things of all built-in kinds that the document allows, but for right integers and letters."""
    return [
        None, True, False, -1, -(10 ** 39), "", "A", "ab", "a b", "`", "{", "\n", "~" * 400, b"", b"a", bytearray(b"a"),
        (), (None,), (True,), ("a", 0), (0, "a", 2), [], [0], ["a"], [[]], {}, {"a": "b"}, {0: 0}, {(): []},
        range(3), slice(0), memoryview(b"a"), object(), int, len, Ellipsis, NotImplemented, lambda: 0,
        iter([0]), (n for n in (0,)), zip(), ONE, Track, NoPlace(), BadTrack([0]), StakeError,
        nested(36, 0), nested(36, "a"), nested(36, None), nested(36, ONE), (0,) * 10000, ["a"] * 10000,
    ]


def no_places(track):
    return odd_things() + [track.places, 10 ** 39, "0", (0,)]


def no_numbers(most):
    return odd_things() + [most + 1, 10 ** 39, "0"]


def steps(track, place):
    """The triples (letter, pay, place) of a place, letters ascending."""
    return sorted(found[1:] for found in track.arrows if found[0] == place)


def walks(track, place, length):
    """All rows of a length, ascending, as triples (text, pays, place)."""
    found = [("", (), place)]
    for _ in range(length):
        found = [
            (text + letter, pays + (pay,), to)
            for text, pays, here in found
            for letter, pay, to in steps(track, here)
        ]
    return sorted(found)


def walk(track, place, text):
    """The pays of a row and the place to which it leads, None for no row."""
    pays = ()
    for letter in text:
        ways = [found for found in steps(track, place) if found[0] == letter]
        if not ways:
            return None
        pays += (ways[0][1],)
        place = ways[0][2]
    return pays, place


def texts(abc, most):
    """All texts of these letters, shorter ones first, then ascending."""
    level = [""]
    for _ in range(most + 1):
        yield from level
        level = [text + letter for text in level for letter in abc]


def worth(pay):
    return Fraction(1, pay) if pay > 0 else Fraction(1)


def comes_to(track, place, lot):
    """What the reciprocals of the letters that lead from a place into a lot come to."""
    return sum(worth(pay) for _, pay, to in steps(track, place) if to in lot)


def lots(track):
    """All lots of a track, full or not."""
    for bits in range(1, 2 ** track.places):
        yield tuple(place for place in range(track.places) if bits >> place & 1)


def full_lots(track):
    return [lot for lot in lots(track) if all(comes_to(track, place, lot) >= 1 for place in lot)]


def error_of(function, *told):
    """The error of the package that a call raises, None if it raises none."""
    try:
        function(*told)
    except StakeError as error:
        return error
    return None


class Errors:
    """For test cases: what error a call raises, to the very class and field."""

    def raises(self, kind, function, *told):
        error = error_of(function, *told)
        self.assertIs(type(error), kind, (function.__name__, repr(told)[:200]))
        return error

    def raises_for(self, kind, function, told, at, things):
        """The call with each of the things in the place at raises the error."""
        for thing in things:
            self.raises(kind, function, *told[:at], thing, *told[at + 1:])
