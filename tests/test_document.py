"""The examples of the document as they stand, and its facts on drawn tracks."""

import unittest
from fractions import Fraction

from tests.helper import BETTORS, DRAWN, GROWING, TRACKS, drawn, full_lots, stakes, steps
from wholestakes.byone import caps_by_one, hopeful_by_one, is_caps_by_one, least_by_one
from wholestakes.fair import fair, is_fair, mean_after
from wholestakes.fees import caps_with_fee, is_caps_with_fee, least_with_fee
from wholestakes.goals import least_for, parts_for
from wholestakes.growing import is_table, least_coins, table
from wholestakes.holding import caps, is_caps
from wholestakes.knowing import poorest_row
from wholestakes.limits import least_coins_within
from wholestakes.lots import greatest_full, hopeful, is_full, ranks
from wholestakes.plain import plain_coins, plain_stake
from wholestakes.purses import Purse
from wholestakes.rows import led
from wholestakes.slopes import is_slope, slope
from wholestakes.stakes import answer, outcome, outcomes
from wholestakes.texts import track_text
from wholestakes.times import factor, peak, sure_after
from wholestakes.tracks import Track, arrow, letters, reached

t = Track(2, ((0, "a", 3, 0), (0, "b", 2, 1), (1, "a", 4, 0), (1, "b", 3, 1)))
u = Track(2, ((0, "a", 3, 0), (0, "b", 2, 1), (1, "a", 4, 0), (1, "b", 0, 1)))
v = Track(3, ((0, "a", 3, 1), (0, "b", 3, 0), (1, "a", 2, 0), (1, "b", 0, 2), (2, "a", 5, 2), (2, "b", 2, 2)))
ALL = TRACKS + GROWING + tuple(drawn(seed, 8, "abcd") for seed in range(500, 530))


class ExamplesTest(unittest.TestCase):
    def test_the_examples(self):
        for found, right in (
            (letters(t, 1), "ab"), (arrow(t, 0, "b"), (2, 1)), (led(t, 0, "bab"), 1),
            (greatest_full(u), (1,)), (hopeful(t), (0, 1)), (hopeful(u), ()), (ranks(u), (1, None)), (ranks(v), (1, 2, 1)),
            (outcome(t, 0, 5, (2, 3), "a"), (6, 0)), (answer(u, (1,), 1, 4, (4, 0)), "b"),
            (least_for(t, 0, (5, 5)), 5), (parts_for(t, 0, (5, 5)), (25, 6)),
            (factor(t, 0, 2), (72, 41)), (factor(u, 1, 9), (1, 1)),
            (least_coins(t), (2, 2)), (least_coins(u), (None, None)), (least_coins(v), (2, 3, 3)),
            (is_table(t, ((2, 2, (1, 1)), (2, 1, (1, 1)))), True), (is_caps(t, (1, 1)), True), (caps(t, 0, 2), None),
            (poorest_row(t, 0, 3), "bab"), (least_by_one(v), (None, None, None)), (least_with_fee(t, 1), (5, 4)),
            (is_fair(u, (1,), (((0, 1), (1, 1)),)), True),
            (track_text(u), "places 2\narrow 0 a 3 0\narrow 0 b 2 1\narrow 1 a 4 0\narrow 1 b 0 1\n"),
        ):
            self.assertEqual(found, right)
            self.assertIs(type(found), type(right))


class FactsTest(unittest.TestCase):
    def test_the_first_two_full_lots_together_are_full(self):
        for track in ALL:
            full = full_lots(track)[:12]
            for one in full:
                for other in full:
                    self.assertIs(is_full(track, tuple(sorted({*one, *other}))), True)

    def test_the_second_there_always_is_an_answer(self):
        for track in ALL:
            for lot in full_lots(track)[:4]:
                for place in lot[:3]:
                    for stake in stakes(track, place, 5)[::3]:
                        letter = answer(track, lot, place, 5, stake)
                        coins, to = outcome(track, place, 5, stake, letter)
                        self.assertIn(to, lot)
                        self.assertLessEqual(coins, 5)

    def test_the_third_whole_coins_and_parts(self):
        for track in ALL:
            for shift in range(4):
                goals = tuple((17, 3, None, 100, 0)[(at + shift) % 5] for at in range(track.places))
                for place in range(track.places):
                    coins, parts = least_for(track, place, goals), Fraction(*parts_for(track, place, goals))
                    self.assertLessEqual(parts, coins)
                    self.assertLess(coins, parts + len(steps(track, place)))

    def test_the_fourth_the_factors_pass_every_bound_just_at_hopeful_places(self):
        for track in ALL:
            for place in range(track.places):
                for length in (0, 1, 4, 9):
                    for coins in (0, 1, 7, 100):
                        most = coins * Fraction(*factor(track, place, length))
                        self.assertLessEqual(sure_after(track, place, coins, length), most)
                if place in hopeful(track):
                    self.assertGreater(Fraction(*factor(track, place, 60)), Fraction(*factor(track, place, 20)))
                    self.assertGreater(Fraction(*factor(track, place, 40)), 1)
                else:
                    self.assertLessEqual(Fraction(*factor(track, place, 60)), 9 ** track.places)

    def test_the_main_fact_and_the_fifth(self):
        for track in ALL:
            least, told = least_coins(track), table(track)
            self.assertEqual(tuple(place for place in range(track.places) if least[place] is not None), hopeful(track))
            self.assertIs(is_table(track, told), True)
            for place in hopeful(track):
                self.assertEqual(told[place][0], least[place])
                self.assertIs(Purse(track, place, told[place][0]).grows(), True)
                self.assertIs(peak(track, place, told[place][0]), None)

    def test_the_sixth_caps_just_where_the_bettor_does_not_grow(self):
        for track in ALL:
            for place in range(track.places):
                for coins in (0, 1, 2, 3, 5, 9, 30):
                    found = caps(track, place, coins)
                    self.assertIs(found is None, Purse(track, place, coins).grows())
                    if found is not None:
                        self.assertIs(is_caps(track, found), True)

    def test_the_seventh_the_plain_plan(self):
        for track in ALL:
            for place in hopeful(track):
                most = plain_coins(track, place)
                self.assertGreaterEqual(most, least_coins(track)[place])
                for here in reached(track, place):
                    self.check_won(track, here, most, ranks(track))

    def check_won(self, track, place, most, ranking):
        """On each row the plan has won behind at most as many letters as the rank tells, and lays at most these."""
        level = [(place, 0)]
        for _ in range(ranking[place]):
            ahead = []
            for here, lost in level:
                stake = plain_stake(track, here, lost)
                self.assertLessEqual(lost + sum(stake), most)
                for (letter, has, to), laid in zip(outcomes(track, here, most - lost, stake), stake):
                    if ranking[to] >= ranking[here]:
                        self.assertGreater(has, most)
                    else:
                        self.assertEqual(laid, 0)
                        ahead.append((to, lost + sum(stake)))
            level = ahead
        self.assertEqual(level, [])

    def test_the_eighth_slopes_just_where_there_are_no_least_coins(self):
        for track in ALL[::2]:
            for limit in (0, 1, 2, 3, 7, 30):
                least = least_coins_within(track, limit)
                for place in range(track.places):
                    found = slope(track, limit, place)
                    self.assertIs(found is None, least[place] is not None)
                    if found is not None:
                        self.assertIs(is_slope(track, limit, found), True)

    def test_the_ninth_by_one(self):
        for track in ALL:
            least = least_by_one(track)
            self.assertEqual(tuple(place for place in range(track.places) if least[place] is not None), hopeful_by_one(track))
            for place in range(track.places):
                for coins in (0, 1, 2, 3, 9):
                    found = caps_by_one(track, place, coins)
                    self.assertIs(found is None, least[place] is not None and coins >= least[place])
                    if found is not None:
                        self.assertIs(is_caps_by_one(track, found), True)

    def test_the_tenth_with_a_fee(self):
        for track in ALL[::2]:
            for fee in (0, 3, 100):
                least = least_with_fee(track, fee)
                self.assertEqual(tuple(place for place in range(track.places) if least[place] is not None), hopeful(track))
                for place in range(track.places):
                    for coins in (0, 1, 9, 200):
                        found = caps_with_fee(track, fee, place, coins)
                        self.assertIs(found is None, least[place] is not None and coins >= least[place])
                        if found is not None:
                            self.assertIs(is_caps_with_fee(track, fee, found), True)

    def test_the_eleventh_fair_chances_just_for_full_lots(self):
        for track in TRACKS + DRAWN:
            for place in range(track.places):
                self.assertIs(fair(track, (place,)) is not None, is_full(track, (place,)))
            for lot in full_lots(track)[:5]:
                chances = fair(track, lot)
                self.assertIs(is_fair(track, lot, chances), True)
                for kind in BETTORS:
                    mean = mean_after(track, lot, chances, lot[0], 12, kind(track, lot[0]), 3)
                    self.assertLessEqual(Fraction(*mean), 12)


if __name__ == "__main__":
    unittest.main()
