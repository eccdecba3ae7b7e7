import itertools
import unittest

from tests.helper import (
    GROWING, LINE, ONE, T, TRACKS, U, V, Errors, chain, drawn, laid, large, nested, no_places, odd_things, steps,
)
from wholestakes.errors import NoLimit, NoPlace
from wholestakes.limits import least_coins_within
from wholestakes.slopes import is_slope, slope

NO_LIMITS = odd_things() + [-1, 101, 10 ** 39, "1", True, (1,)]
WIDE = tuple(drawn(seed, 12, "abcd") for seed in range(100, 116))


def slow_slope(track, limit, thing):
    """Whether integers and None are a slope: all stakes of at most the limit are tried."""
    for place, height in enumerate(thing):
        if height is not None:
            found = steps(track, place)
            for stake in laid(len(found), limit):
                if not any(
                    thing[to] is not None and pay * told - sum(stake) + thing[to] <= height
                    for told, (_, pay, to) in zip(stake, found)
                ):
                    return False
    return any(height is not None for height in thing)


class IsSlopeTest(unittest.TestCase, Errors):
    def test_all_stakes_of_at_most_the_limit(self):
        for track in (ONE, T, U, V) + GROWING[:12] + TRACKS[5:20]:
            if track.places < 4:
                for limit in (0, 1, 2, 4):
                    for thing in itertools.product((None, -2, 0, 1, 3), repeat=track.places):
                        self.assertIs(is_slope(track, limit, thing), slow_slope(track, limit, thing))

    def test_great_limits(self):
        for thing in itertools.product((None, -9, 0, 1, 90, 100, 150, 199, 200, 201), repeat=2):
            self.assertIs(is_slope(U, 100, thing), slow_slope(U, 100, thing))

    def test_all_integers_may_be_more_or_less(self):
        for track in TRACKS + GROWING:
            for limit in (1, 3):
                for place in range(track.places):
                    found = slope(track, limit, place)
                    if found is not None:
                        for more in (-10 ** 39, -7, 10 ** 39):
                            told = tuple(None if height is None else height + more for height in found)
                            self.assertIs(is_slope(track, limit, told), True)

    def test_one_integer_changed(self):
        for track in TRACKS[:30] + GROWING:
            for limit in (1, 2, 4):
                found = next((told for told in [slope(track, limit, place) for place in range(track.places)] if told), None)
                if found is None:
                    continue
                for place in range(track.places):
                    for change in (-9, -1, 1, 9):
                        if found[place] is not None:
                            told = found[:place] + (found[place] + change,) + found[place + 1:]
                            self.assertIs(is_slope(track, limit, told), slow_slope(track, limit, told))
                    told = found[:place] + (None,) + found[place + 1:]
                    self.assertIs(is_slope(track, limit, told), slow_slope(track, limit, told))

    def test_things_that_are_no_slope(self):
        for track in TRACKS + (large(),):
            self.assertIs(is_slope(track, 0, (None,) * track.places), False)
            self.assertIs(is_slope(track, 0, (0,) * track.places), True)
            self.assertIs(is_slope(track, 0, [0] * track.places), False)
            self.assertIs(is_slope(track, 0, (0,) * (track.places + 1)), False)
            self.assertIs(is_slope(track, 0, (0,) * (track.places - 1)), False)
        for thing in odd_things() + [(True,), ("0",), ((0,),), (False,)]:
            if thing != (0,):
                self.assertIs(is_slope(ONE, 5, thing), False)
            if not (type(thing) is int or thing is None):
                self.assertIs(is_slope(ONE, 5, (thing,)), False)
                self.assertIs(is_slope(U, 0, (0, thing)), False)
        self.assertIs(is_slope(U, 0, (nested(36, 0), 0)), False)
        self.assertIs(is_slope(ONE, 100, (-1,)), True)

    def test_limits(self):
        self.raises_for(NoLimit, is_slope, (T, 0, None), 1, NO_LIMITS)
        self.raises_for(NoLimit, slope, (T, 0, None), 1, NO_LIMITS)
        for track in (T, large()):
            self.raises_for(NoPlace, slope, (track, 0, 0), 2, no_places(track))


class SlopeTest(unittest.TestCase):
    def test_just_where_there_are_no_least_coins(self):
        for track in TRACKS + GROWING:
            for limit in (0, 1, 2, 3, 5, 8):
                least = least_coins_within(track, limit)
                for place in range(track.places):
                    found = slope(track, limit, place)
                    self.assertIs(found is None, least[place] is not None)
                    if found is not None:
                        self.assertIs(type(found[place]), int)
                        self.assertIs(is_slope(track, limit, found), True)
                        self.assertIs(slow_slope(track, limit, found), True)

    def test_great_limits(self):
        for track in TRACKS + WIDE + (large(), chain(2, (2, 3, 7)), chain(1, (5, 6, 7, 7, 8, 9, 9))):
            least = least_coins_within(track, 100)
            for place in range(track.places):
                found = slope(track, 100, place)
                self.assertIs(found is None, least[place] is not None)
                self.assertTrue(found is None or is_slope(track, 100, found))
        for place in (0, 1):
            self.assertIs(slow_slope(U, 100, slope(U, 100, place)), True)

    def test_told_slopes(self):
        self.assertIs(slope(T, 2, 0), None)
        self.assertIs(type(slope(T, 1, 0)), tuple)
        self.assertIs(slope(LINE, 1, 0), None)
        self.assertIsNot(slope(LINE, 0, 0), None)


if __name__ == "__main__":
    unittest.main()
