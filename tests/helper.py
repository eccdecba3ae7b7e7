"""What several tests need: tracks, odd things, and slow answers by the words of the document."""

import functools
import itertools
import random
from fractions import Fraction

from wholestakes.errors import BadTrack, NoPlace, StakeError
from wholestakes.making import side, twin
from wholestakes.tracks import Track

ONE = Track(1, ((0, "a", 2, 0), (0, "b", 2, 0)))
T = Track(2, ((0, "a", 3, 0), (0, "b", 2, 1), (1, "a", 4, 0), (1, "b", 3, 1)))
U = Track(2, ((0, "a", 3, 0), (0, "b", 2, 1), (1, "a", 4, 0), (1, "b", 0, 1)))
V = Track(3, ((0, "a", 3, 1), (0, "b", 3, 0), (1, "a", 2, 0), (1, "b", 0, 2), (2, "a", 5, 2), (2, "b", 2, 2)))
# From 0 one cannot come back: 0 -> 1 -> 2 <-> 3.
LINE = Track(4, ((0, "c", 1, 1), (0, "d", 0, 2), (1, "a", 9, 2), (2, "b", 1, 3), (3, "a", 7, 2)))


def drawn(seed, most_places=4, abc="abc"):
    """A track that is the same for each call with one seed."""
    draw = random.Random(seed)
    places = draw.randint(1, most_places)
    arrows = []
    for place in range(places):
        for letter in sorted(draw.sample(abc, draw.randint(1, len(abc)))):
            arrows.append((place, letter, draw.choice((0, 1, 2, 2, 3, 3, 4, 6, 9)), draw.randrange(places)))
    return Track(places, tuple(arrows))


DRAWN = tuple(drawn(seed) for seed in range(40))
TRACKS = (ONE, T, U, V, LINE) + DRAWN
# Of most of these the least coins are from 3 to 7, and other ones for a limit or by one letter.
GROWING = tuple(drawn(seed, 3) for seed in (
    5, 75, 77, 84, 91, 129, 142, 223, 280, 282, 346, 413, 416, 529, 576, 586, 609, 662, 767, 779, 891, 910, 923,
))


def large():
    """A track with more than 12 places and more than 60 arrows."""
    track = side(side(V, U), side(drawn(3), LINE))
    track = side(track, side(track, side(drawn(11), track)))
    return twin(track, track.places - 1)


def nested(depth, kind):
    thing = kind
    for at in range(depth):
        thing = ((thing,), [thing], {"a": thing})[at % 3]
    return thing


def odd_things():
    """Things of all built-in kinds that the document allows, but for right integers and letters."""
    return [
        None, True, False, -1, -(10 ** 39), "", "A", "ab", "a b", "`", "{", "\n", "~" * 400, b"", b"a", bytearray(b"a"),
        (), (None,), (True,), ("a", 0), (0, "a", 2), [], [0], ["a"], [[]], {}, {"a": "b"}, {0: 0}, {(): []},
        range(3), slice(0), memoryview(b"a"), object(), int, len, Ellipsis, NotImplemented, lambda: 0,
        iter([0]), (n for n in (0,)), zip(), ONE, Track, NoPlace(), BadTrack([0]), StakeError,
        nested(36, 0), nested(36, "a"), nested(36, None), nested(36, ONE), (0,) * 10000, ["a"] * 10000,
    ]


def no_places(track):
    return odd_things() + [track.places, 10 ** 39, "0", (0,)]


def no_numbers(most):
    return odd_things() + [most + 1, 10 ** 39, "0"]


def steps(track, place):
    """The triples (letter, pay, place) of a place, letters ascending."""
    return sorted(found[1:] for found in track.arrows if found[0] == place)


def walks(track, place, length):
    """All rows of a length, ascending, as triples (text, pays, place)."""
    found = [("", (), place)]
    for _ in range(length):
        found = [
            (text + letter, pays + (pay,), to)
            for text, pays, here in found
            for letter, pay, to in steps(track, here)
        ]
    return sorted(found)


def walk(track, place, text):
    """The pays of a row and the place to which it leads, None for no row."""
    pays = ()
    for letter in text:
        ways = [found for found in steps(track, place) if found[0] == letter]
        if not ways:
            return None
        pays += (ways[0][1],)
        place = ways[0][2]
    return pays, place


def texts(abc, most):
    """All texts of these letters, shorter ones first, then ascending."""
    level = [""]
    for _ in range(most + 1):
        yield from level
        level = [text + letter for text in level for letter in abc]


def worth(pay):
    return Fraction(1, pay) if pay > 0 else Fraction(1)


def comes_to(track, place, lot):
    """What the reciprocals of the letters that lead from a place into a lot come to."""
    return sum(worth(pay) for _, pay, to in steps(track, place) if to in lot)


def lots(track):
    """All lots of a track, full or not."""
    for bits in range(1, 2 ** track.places):
        yield tuple(place for place in range(track.places) if bits >> place & 1)


def full_lots(track):
    return [lot for lot in lots(track) if all(comes_to(track, place, lot) >= 1 for place in lot)]


@functools.lru_cache(None)
def laid(count, coins):
    """All tuples of so many coins that come to at most coins, those that come to less first."""
    found = [told for told in itertools.product(range(coins + 1), repeat=count) if sum(told) <= coins]
    return sorted(found, key=lambda told: (sum(told), told))


def stakes(track, place, coins):
    """All stakes at a place by which at most so many coins are laid."""
    return laid(len(steps(track, place)), coins)


def behind(track, place, coins, stake, fee=0):
    """The pairs (place, coins) behind the letters, ascending; below 0 where the fee cannot be given."""
    kept = coins - sum(stake) - fee
    return [(to, kept + pay * told) for told, (_, pay, to) in zip(stake, steps(track, place))]


def anything(stake):
    return True


def by_one(stake):
    return sum(told > 0 for told in stake) <= 1


def within(limit):
    return lambda stake: sum(stake) <= limit


def meets(track, place, coins, stake, goals):
    return all(goals[to] is None or has >= goals[to] for to, has in behind(track, place, coins, stake))


def enough_for(track, place, coins, goals, fits=anything):
    """Whether some stake with so many coins meets goals."""
    return any(meets(track, place, coins, stake, goals) for stake in stakes(track, place, coins) if fits(stake))


def slow_least(track, place, goals, fits=anything):
    """The least coins with which some stake meets goals: all stakes of ever more coins."""
    return next(coins for coins in itertools.count() if enough_for(track, place, coins, goals, fits))


def sure_levels(track, goal, fits=anything, fee=0):
    """For each number of letters the set of the pairs (place, coins), below a goal, from which the goal is sure within
    so many; the last one is that of all from which it is sure."""
    levels = [set()]
    while len(levels) < 2 or levels[-1] != levels[-2]:
        levels.append({
            (place, coins)
            for place in range(track.places)
            for coins in range(goal)
            if (place, coins) in levels[-1] or any(
                all(has >= goal or (to, has) in levels[-1] for to, has in behind(track, place, coins, stake, fee))
                for stake in stakes(track, place, coins)
                if fits(stake)
            )
        })
    return levels[:-1]


def least_of(level, place, goal):
    """The least coins at a place in such a set, the goal if there are none; more coins are never less good."""
    found = [coins for coins in range(goal) if (place, coins) in level]
    assert found == list(range(goal - len(found), goal))
    return goal - len(found)


def needs(pays, goals):
    """The least coins for goals behind letters with such pays: whatever is kept."""
    found = []
    for kept in range(max(goals) + 1):
        lacks = [(pay, goal - kept) for pay, goal in zip(pays, goals) if goal > kept]
        if all(pay > 0 for pay, _ in lacks):
            found.append(kept + sum(-(-lack // pay) for pay, lack in lacks))
    return min(found)


def needs_at(track, place, goals):
    """The same at a place, for goals with numbers or None."""
    found = steps(track, place)
    return needs([pay for _, pay, _ in found], [goals[to] or 0 for _, _, to in found])


def slow_table(track, thing, fits=anything, fee=0):
    """Whether a tuple of right triples and None is a table by the words of the document."""
    for place, entry in enumerate(thing):
        if entry is not None:
            coins, turns, stake = entry
            if len(stake) != len(steps(track, place)) or sum(stake) > coins or not fits(stake):
                return False
            for to, has in behind(track, place, coins, stake, fee):
                if has < 0 or thing[to] is None or (-has, thing[to][1]) >= (-thing[to][0], turns):
                    return False
    return True


def slow_caps(track, caps, fits=anything, fee=0):
    """Whether a tuple of coins and None is caps by the words of the document: all stakes are tried."""
    for place, cap in enumerate(caps):
        if cap is not None:
            for stake in stakes(track, place, cap):
                ends = behind(track, place, cap, stake, fee)
                held = [caps[to] is not None and has <= caps[to] for to, has in ends]
                if fits(stake) and not any(held):
                    return False
    return any(cap is not None for cap in caps)


def chain(count, pays):
    """Places one above the other, hard to grow at: letters lead up or stay, one that pays nothing leads down."""
    arrows = []
    for place in range(count):
        for at, pay in enumerate(pays):
            arrows.append((place, "abcdefgh"[at], pay, count - 1 if place == 0 else min(place + at % 2, count - 1)))
        if place > 0:
            arrows.append((place, "z", 0, place - 1))
    return Track(count, tuple(arrows))


def nothing(track, place):
    """A bettor that lays nothing."""
    return lambda text, coins: (0,) * len(steps(track, walk(track, place, text)[1]))


def first_letter(track, place):
    """A bettor that lays all on the first letter."""
    return lambda text, coins: (coins,) + (0,) * (len(steps(track, walk(track, place, text)[1])) - 1)


def last_letter(track, place):
    return lambda text, coins: (0,) * (len(steps(track, walk(track, place, text)[1])) - 1) + (coins,)


def by_letters(track, place):
    """A bettor that lays some coins by the letters so far."""
    def bettor(text, coins):
        draw = random.Random(text + str(coins))
        count = len(steps(track, walk(track, place, text)[1]))
        stake = [0] * count
        left = draw.randint(0, min(coins, 60))
        for _ in range(left):
            stake[draw.randrange(count)] += 1
        return tuple(stake)
    return bettor


BETTORS = (nothing, first_letter, last_letter, by_letters)


def wrong_stakes(coins, count):
    """What is no stake for so many letters with so many coins."""
    right = (0,) * count
    return odd_things() + [
        list(right), right + (0,), right[1:] if count > 1 else (), (coins + 1,) + right[1:], (-1,) + right[1:],
        (False,) + right[1:], ("0",) + right[1:], (None,) + right[1:], {at: 0 for at in range(count)}, 0,
        ((0,),) + right[1:], (nested(36, 0),) + right[1:], (coins,) * count if count > 1 and coins else None,
    ]


def error_of(function, *told):
    """The error of the package that a call raises, None if it raises none."""
    try:
        function(*told)
    except StakeError as error:
        return error
    return None


class Errors:
    """For test cases: what error a call raises, to the very class and field."""

    def raises(self, kind, function, *told):
        error = error_of(function, *told)
        self.assertIs(type(error), kind, (function.__name__, repr(told)[:200]))
        return error

    def raises_for(self, kind, function, told, at, things):
        """The call with each of the things in the place at raises the error."""
        for thing in things:
            self.raises(kind, function, *told[:at], thing, *told[at + 1:])
