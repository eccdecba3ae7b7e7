import itertools
import unittest

from tests.helper import (
    DRAWN, GROWING, LINE, ONE, T, TRACKS, U, V, Errors, chain, drawn, large, needs_at, nested, no_places, odd_things,
    slow_caps, sure_levels,
)
from wholestakes.errors import NoCoins, NoPlace
from wholestakes.growing import least_coins
from wholestakes.holding import caps, is_caps
from wholestakes.lots import hopeful

WIDE = tuple(drawn(seed, 12, "abcd") for seed in range(100, 130))


def holds(track, told):
    """Whether told coins and None are caps: whatever is kept, the caps are not passed behind each letter."""
    goals = tuple(None if cap is None else cap + 1 for cap in told)
    return any(cap is not None for cap in told) and all(
        cap is None or needs_at(track, place, goals) > cap for place, cap in enumerate(told)
    )


class IsCapsTest(unittest.TestCase):
    def test_the_examples(self):
        self.assertIs(is_caps(T, (1, 1)), True)
        self.assertIs(caps(T, 0, 2), None)

    def test_all_stakes_of_few_coins(self):
        for track in TRACKS + GROWING:
            if track.places < 4:
                for told in itertools.product((None, 0, 1, 2, 3), repeat=track.places):
                    self.assertIs(is_caps(track, told), slow_caps(track, told), (track.arrows, told))

    def test_told_caps(self):
        for told in ((0, 0), (1, 1)):
            self.assertIs(is_caps(T, told), True)
        for told in ((2, 2), (1, 2), (None, 1), (1, None), (10 ** 39, 10 ** 39)):
            self.assertIs(is_caps(T, told), False)
        for coins in (0, 1, 5, 10 ** 39):
            self.assertIs(is_caps(U, (None, coins)), True)
            self.assertIs(is_caps(U, (coins, 2 * coins)), True)
            self.assertIs(is_caps(ONE, (coins,)), True)
        self.assertIs(is_caps(U, (4, None)), False)
        self.assertIs(is_caps(U, (5, 5)), False)

    def test_None_everywhere(self):
        for track in TRACKS + (large(),):
            self.assertIs(is_caps(track, (None,) * track.places), False)

    def test_things_that_are_no_caps(self):
        for thing in odd_things():
            self.assertIs(is_caps(U, thing), False)
            self.assertIs(is_caps(ONE, (thing,)), False)
            self.assertIs(is_caps(U, (thing, 5)), thing is None)
        for thing in ([1, 1], (1,), (1, 1, 1), (True, 1), (1, False), (1, -1), (1, "1"), ((1, 1),), {0: 1, 1: 1}, 1):
            self.assertIs(is_caps(T, thing), False)
        self.assertIs(is_caps(T, (nested(36, 1), nested(36, 1))), False)


class CapsTest(unittest.TestCase, Errors):
    def test_caps_just_below_the_least_coins(self):
        for track in TRACKS + GROWING + WIDE[:10] + (chain(2, (2, 3, 7)),):
            least = least_coins(track)
            for place in range(track.places):
                amounts = [0, 1, 2, 5, 10 ** 30]
                if least[place] is not None:
                    amounts += [least[place] - 1, least[place]]
                for coins in amounts:
                    found = caps(track, place, coins)
                    if least[place] is not None and coins >= least[place]:
                        self.assertIs(found, None)
                    else:
                        self.assertGreaterEqual(found[place], coins)
                        self.assertIs(is_caps(track, found), True)
                        if max(cap or 0 for cap in found) < 2000:
                            self.assertIs(holds(track, found), True)

    def test_all_stakes_where_there_are_few_coins(self):
        for track in TRACKS + GROWING:
            for place in range(track.places):
                for coins in (0, 1, 3):
                    found = caps(track, place, coins)
                    if found is not None and max(cap or 0 for cap in found) <= 9:
                        self.assertIs(slow_caps(track, found), True)

    def test_going_on_over_purses(self):
        for track in TRACKS[:20] + GROWING:
            most = max([coins or 0 for coins in least_coins(track)])
            if most < 8:
                sure = sure_levels(track, most + 2)[-1]
                for place in hopeful(track):
                    for coins in range(most + 2):
                        self.assertIs(caps(track, place, coins) is None, (place, coins) in sure)

    def test_the_least_coins_less_one_are_caps(self):
        for track in TRACKS + GROWING + WIDE + (large(), chain(3, (2, 4, 5))):
            if hopeful(track):
                told = tuple(None if coins is None else coins - 1 for coins in least_coins(track))
                self.assertIs(is_caps(track, told), True)
                for place in hopeful(track):
                    more = tuple(cap if at != place else cap + 1 for at, cap in enumerate(told))
                    self.assertIs(is_caps(track, more), False)

    def test_far_from_the_full_lot(self):
        # Each letter on the way pays nine, and other letters nothing.
        arrows = []
        for place in range(11):
            arrows += [(place, "a", 9, place + 1), (place, "b", 0, place)]
        line = type(T)(12, tuple(arrows) + ((11, "a", 2, 11), (11, "b", 2, 11)))
        for coins in (0, 1, 7, 10 ** 30):
            for place in range(12):
                found = caps(line, place, coins)
                self.assertGreaterEqual(found[place], coins)
                self.assertIs(is_caps(line, found), True)
        self.assertIs(is_caps(LINE, (None, None, 0, 0)), True)

    def test_errors_in_their_order(self):
        for track in (U, V, large()):
            self.raises_for(NoPlace, caps, (track, 0, -1), 1, no_places(track))
            self.raises_for(NoCoins, caps, (track, 0, 0), 2, odd_things())
        self.assertEqual(len(caps(DRAWN[0], 0, 0)), DRAWN[0].places)


if __name__ == "__main__":
    unittest.main()
