import itertools
import unittest

from tests.helper import (
    DRAWN, GROWING, LINE, ONE, T, TRACKS, U, V, Errors, by_one, drawn, enough_for, large, least_of, lots, nested, no_places,
    odd_things, slow_caps, slow_table, steps, sure_levels,
)
from wholestakes.byone import (
    caps_by_one, hopeful_by_one, is_caps_by_one, is_full_by_one, is_table_by_one, least_by_one, table_by_one,
)
from wholestakes.errors import NoCoins, NoPlace
from wholestakes.growing import is_table, least_coins, table
from wholestakes.holding import is_caps
from wholestakes.lots import hopeful
from wholestakes.making import side, twin
from wholestakes.tracks import Track, reached

WIDE = tuple(drawn(seed, 12, "abcd") for seed in range(100, 160))
# All letters lead back into the lot of all places, yet from the place 1 it is just one.
ROUND = Track(3, ((0, "a", 2, 0), (0, "b", 5, 1), (1, "a", 3, 2), (2, "a", 2, 0), (2, "b", 9, 2)))
# Places from which one letter leads on, and pays what is lost elsewhere.
SLOW = (
    Track(2, ((0, "a", 2, 1), (1, "a", 0, 0), (1, "b", 9, 1))),
    Track(2, ((0, "a", 9, 0), (0, "b", 0, 1), (1, "a", 2, 0))),
    Track(3, ((0, "a", 2, 0), (0, "b", 1, 1), (1, "a", 2, 2), (2, "a", 3, 0))),
    Track(4, ((0, "a", 4, 0), (0, "b", 1, 1), (1, "a", 2, 2), (1, "b", 7, 1), (2, "a", 3, 3), (3, "a", 2, 3))),
)
ALL = TRACKS + GROWING + WIDE + SLOW + (ROUND,)


def full_by_one(track, lot):
    for place in lot:
        back = [pay for _, pay, to in steps(track, place) if to in lot]
        if not (len(back) >= 2 or back in ([0], [1])):
            return False
    return True


class FullTest(unittest.TestCase):
    def test_all_lots(self):
        for track in ALL:
            if track.places < 8:
                for lot in lots(track):
                    self.assertIs(is_full_by_one(track, lot), full_by_one(track, lot))

    def test_one_letter_back(self):
        for pay in range(10):
            track = Track(2, ((0, "a", pay, 0), (0, "b", 9, 1), (1, "a", 9, 0)))
            self.assertIs(is_full_by_one(track, (0,)), pay < 2)
            self.assertIs(is_full_by_one(track, (1,)), False)
            self.assertIs(is_full_by_one(track, (0, 1)), False)
        self.assertIs(is_full_by_one(T, (0, 1)), True)
        self.assertIs(is_full_by_one(T, (0,)), False)

    def test_things_that_are_no_lot(self):
        track = Track(2, ((0, "a", 0, 0), (0, "b", 0, 1), (1, "a", 0, 0), (1, "b", 1, 1)))
        for thing in odd_things() + [0, [0, 1], (1, 0), (0, 0), (0, 2), (-1, 0), (True,), (0, True), "01", (0, None), {0: 1}]:
            self.assertIs(is_full_by_one(track, thing), False)
        for thing in odd_things():
            self.assertIs(is_full_by_one(track, (thing,)), False)
            self.assertIs(is_full_by_one(track, (0, thing)), False)
        for lot in ((0,), (1,), (0, 1)):
            self.assertIs(is_full_by_one(track, lot), True)
        self.assertIs(is_full_by_one(track, (nested(36, 0),)), False)

    def test_hopeful_by_one(self):
        for track in ALL:
            if track.places < 8:
                full = {place for lot in lots(track) if full_by_one(track, lot) for place in lot}
                told = tuple(place for place in range(track.places) if not set(reached(track, place)) & full)
                self.assertEqual(hopeful_by_one(track), told)
        self.assertEqual([hopeful_by_one(track) for track in (ONE, T, U, V, LINE)], [(), (), (), (), (0, 1, 2, 3)])
        self.assertEqual(hopeful_by_one(ROUND), (0, 1, 2))
        self.assertEqual([hopeful_by_one(track) for track in SLOW], [(0, 1), (0, 1), (0, 1, 2), (0, 1, 2, 3)])

    def test_what_is_hopeful_by_one_is_hopeful(self):
        for track in ALL + (large(),):
            self.assertLessEqual(set(hopeful_by_one(track)), set(hopeful(track)))


class LeastTest(unittest.TestCase):
    def test_just_where_it_is_hopeful(self):
        for track in ALL + (large(),):
            least = least_by_one(track)
            self.assertEqual((type(least), len(least)), (tuple, track.places))
            told = tuple(place for place in range(track.places) if least[place] is not None)
            self.assertEqual(told, hopeful_by_one(track))
            for place in told:
                self.assertGreaterEqual(least[place], least_coins(track)[place])

    def test_going_on_over_purses(self):
        for track in ALL:
            least = least_by_one(track)
            most = max(coins or 0 for coins in least)
            if most <= 6 and track.places < 5:
                for goal in (most + 1, most + 3):
                    sure = sure_levels(track, goal, by_one)[-1]
                    for place in hopeful_by_one(track):
                        self.assertEqual(least_of(sure, place, goal), least[place])

    def test_all_stakes_of_one_coin_less(self):
        for track in ALL:
            least = least_by_one(track)
            for place in hopeful_by_one(track):
                if least[place] < 10:
                    self.assertIs(enough_for(track, place, least[place], least, by_one), True)
                    self.assertIs(enough_for(track, place, least[place] - 1, least, by_one), False)

    def test_told_least_coins(self):
        self.assertEqual(least_by_one(V), (None, None, None))
        self.assertEqual(least_by_one(LINE), (1, 1, 1, 1))
        self.assertEqual(least_by_one(drawn(586, 3)), (4, 5, 3))
        self.assertEqual(least_by_one(drawn(142, 3)), (4, 3, 5))
        self.assertEqual([least_by_one(track) for track in SLOW], [(2, 3), (3, 2), (2, 1, 1), (3, 2, 1, 1)])
        self.assertEqual(least_by_one(side(V, twin(SLOW[1], 0))), (None, None, None, 3, 2, 3))


class TableTest(unittest.TestCase):
    def test_table_by_one(self):
        for track in ALL + (large(),):
            found = table_by_one(track)
            self.assertEqual(tuple(None if entry is None else entry[0] for entry in found), least_by_one(track))
            self.assertIs(is_table_by_one(track, found), True)
            self.assertIs(slow_table(track, found, by_one), True)
            self.assertIs(is_table(track, found), True)

    def test_a_second_letter_laid_on(self):
        self.assertIs(is_table_by_one(T, ((2, 2, (1, 1)), (2, 1, (1, 1)))), False)
        self.assertIs(is_table_by_one(T, (None, None)), True)
        track = Track(2, ((0, "a", 5, 1), (0, "b", 9, 1), (1, "a", 2, 1)))
        self.assertIs(is_table_by_one(track, ((5, 0, (0, 1)), (1, 1, (1,)))), True)
        self.assertIs(is_table_by_one(track, ((5, 0, (1, 1)), (1, 1, (1,)))), False)
        self.assertIs(is_table(track, ((5, 0, (1, 1)), (1, 1, (1,)))), True)
        for track in TRACKS + GROWING:
            found = table(track)
            told = all(entry is None or by_one(entry[2]) for entry in found)
            self.assertIs(is_table_by_one(track, found), told)

    def test_things_that_are_no_table(self):
        for thing in odd_things() + [((2, 2, (1, 0)),), [None, None], ((2, 2, (1, 0)), None), ((2, 2, (1, 0)), (2, 1, (1, 0)))]:
            self.assertIs(is_table_by_one(T, thing), False)
            self.assertIs(is_table_by_one(T, ((2, 2, thing), None)), False)
            if thing is not None:
                self.assertIs(is_table_by_one(ONE, (thing,)), False)


class CapsTest(unittest.TestCase, Errors):
    def test_all_stakes_on_one_letter(self):
        for track in (ONE, T, U, V, ROUND) + GROWING + SLOW + DRAWN[:15]:
            if track.places < 4:
                for told in itertools.product((None, 0, 1, 2, 3), repeat=track.places):
                    self.assertIs(is_caps_by_one(track, told), slow_caps(track, told, by_one))
                    if is_caps(track, told):
                        self.assertIs(is_caps_by_one(track, told), True)

    def test_told_caps(self):
        for coins in (0, 1, 5, 10 ** 39):
            self.assertIs(is_caps_by_one(T, (coins, coins)), True)
            self.assertIs(is_caps_by_one(SLOW[1], (coins, coins)), coins == 0)
        self.assertIs(is_caps_by_one(SLOW[1], (1, None)), False)
        self.assertIs(is_caps_by_one(SLOW[1], (1, 0)), True)
        self.assertIs(is_caps_by_one(SLOW[1], (2, 0)), False)

    def test_things_that_are_no_caps(self):
        for track in ALL + (large(),):
            self.assertIs(is_caps_by_one(track, (None,) * track.places), False)
        for thing in odd_things():
            self.assertIs(is_caps_by_one(T, thing), False)
            self.assertIs(is_caps_by_one(ONE, (thing,)), False)
        for thing in ([1, 1], (1,), (1, 1, 1), (True, 1), (1, False), (1, -1), (1, "1"), {0: 1, 1: 1}, 1):
            self.assertIs(is_caps_by_one(T, thing), False)

    def test_caps_by_one_and_the_ninth_fact(self):
        for track in ALL:
            least = least_by_one(track)
            for place in range(track.places):
                amounts = [0, 1, 2, 5, 10 ** 30]
                if least[place] is not None:
                    amounts += [least[place] - 1, least[place]]
                for coins in amounts:
                    found = caps_by_one(track, place, coins)
                    if least[place] is not None and coins >= least[place]:
                        self.assertIs(found, None)
                    else:
                        self.assertGreaterEqual(found[place], coins)
                        self.assertIs(is_caps_by_one(track, found), True)
                        if max(cap or 0 for cap in found) <= 9 and track.places < 5:
                            self.assertIs(slow_caps(track, found, by_one), True)

    def test_the_least_coins_less_one_are_caps(self):
        for track in ALL + (large(),):
            if hopeful_by_one(track):
                told = tuple(None if coins is None else coins - 1 for coins in least_by_one(track))
                self.assertIs(is_caps_by_one(track, told), True)
                for place in hopeful_by_one(track):
                    more = tuple(cap if at != place else cap + 1 for at, cap in enumerate(told))
                    self.assertIs(is_caps_by_one(track, more), False)

    def test_errors_in_their_order(self):
        for track in (T, SLOW[0], large()):
            self.raises_for(NoPlace, caps_by_one, (track, 0, -1), 1, no_places(track))
            self.raises_for(NoCoins, caps_by_one, (track, 0, 0), 2, odd_things())


if __name__ == "__main__":
    unittest.main()
