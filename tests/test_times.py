import random
import unittest
from fractions import Fraction

from tests.helper import (
    DRAWN, LINE, ONE, T, TRACKS, U, V, Errors, behind, chain, drawn, large, least_of, needs_at, no_numbers, no_places,
    odd_things, slow_least, stakes, steps, sure_levels,
)
from wholestakes.errors import NoCoins, NoGoals, NoNumber, NoPlace, TooMany
from wholestakes.growing import least_coins
from wholestakes.lots import hopeful, row_to_full
from wholestakes.times import factor, least_after, least_within, parts_after, peak, soonest, sure_after
from wholestakes.tracks import Track

SMALL = tuple(track for track in DRAWN if track.places < 4)


def surely(track, place, coins, goals, length):
    """Whether the bettor can be sure of goals behind so many letters: all stakes, all letters, one behind another."""
    if length == 0:
        return coins >= (goals[place] or 0)
    return any(
        all(surely(track, to, has, goals, length - 1) for to, has in behind(track, place, coins, stake))
        for stake in stakes(track, place, coins)
    )


def best(track, place, coins, length):
    """The greatest number of coins that is sure behind so many letters, by all stakes."""
    if length == 0:
        return coins
    return max(
        min(best(track, to, has, length - 1) for to, has in behind(track, place, coins, stake))
        for stake in stakes(track, place, coins)
    )


def amounts(track, goals, length):
    found = [Fraction(goal or 0) for goal in goals]
    for _ in range(length):
        ahead = []
        for place in range(track.places):
            wants = [(pay, found[to]) for _, pay, to in steps(track, place)]
            kinds = []
            for kept in [0] + [goal for _, goal in wants]:
                if all(pay > 0 or goal <= kept for pay, goal in wants):
                    kinds.append(kept + sum(Fraction(goal - kept) / pay for pay, goal in wants if goal > kept))
            ahead.append(min(kinds))
        found = ahead
    return found


def told(fractions):
    return tuple((found.numerator, found.denominator) for found in fractions)


class AfterTest(unittest.TestCase, Errors):
    def test_letter_by_letter(self):
        for track in TRACKS[:30]:
            draw = random.Random(track.places)
            for kinds in ((0, 4), (None, 5), (None, 0, 1, 6)):
                goals = tuple(draw.choice(kinds) for _ in range(track.places))
                found = tuple(goal or 0 for goal in goals)
                for length in range(7):
                    self.assertEqual(least_after(track, goals, length), found)
                    self.assertEqual(parts_after(track, goals, length), told(amounts(track, goals, length)))
                    found = tuple(slow_least(track, place, found) for place in range(track.places))

    def test_all_stakes_and_letters_one_behind_another(self):
        for track in SMALL[:10] + (T, V):
            goals = tuple((3, None, 4)[at % 3] for at in range(track.places))
            for length in range(4):
                found = least_after(track, goals, length)
                for place in range(track.places):
                    for coins in range(4):
                        self.assertIs(coins >= found[place], surely(track, place, coins, goals, length))

    def test_length_60(self):
        for track in TRACKS[:20] + (chain(3, (2, 4, 5)),):
            for most in (7, 90):
                goals = tuple(random.Random(place).choice((None, most, most // 2)) for place in range(track.places))
                found = goals
                for _ in range(60):
                    found = tuple(needs_at(track, place, found) for place in range(track.places))
                self.assertEqual(least_after(track, goals, 60), found)
                self.assertEqual(parts_after(track, goals, 60), told(amounts(track, goals, 60)))

    def test_great_goals(self):
        for track in TRACKS + (large(),):
            goals = (10 ** 39,) * track.places
            for length in (0, 1, 2, 60):
                whole, parts = least_after(track, goals, length), parts_after(track, goals, length)
                for place in range(track.places):
                    amount = Fraction(*parts[place])
                    self.assertTrue(amount <= whole[place] <= amount + 26 * length)
                    self.assertEqual(parts[place][0] * amount.denominator, amount.numerator * parts[place][1])

    def test_goals_of_None_need_nothing(self):
        for track in TRACKS:
            for length in (0, 1, 5, 60):
                self.assertEqual(least_after(track, (None,) * track.places, length), (0,) * track.places)
                self.assertEqual(parts_after(track, (None,) * track.places, length), ((0, 1),) * track.places)
        # Who is at 3 when it counts wants nothing, and one letter later it is at 2.
        self.assertEqual([least_after(LINE, (9, 9, 9, None), length)[3] for length in (0, 1, 2, 3)], [0, 2, 0, 1])

    def test_errors_in_their_order(self):
        wrong = odd_things() + [(5,), [5, 5], (5, -1), (True, 5), (5, 5, 5)]
        for function in (least_after, parts_after):
            self.raises_for(NoGoals, function, (T, None, None), 1, wrong)
            self.raises_for(NoNumber, function, (T, (5, 5), 0), 2, no_numbers(60) + [61, -1, True])


class SureTest(unittest.TestCase, Errors):
    def test_all_stakes_one_behind_another(self):
        for track in SMALL[:14] + (ONE, T, U, V):
            for place in range(track.places):
                for coins in range(5):
                    for length in range(3):
                        self.assertEqual(sure_after(track, place, coins, length), best(track, place, coins, length))

    def test_the_greatest_that_needs_no_more_wanted_everywhere(self):
        for track in TRACKS[:12] + (drawn(109, 12, "abcd"), chain(2, (2, 3, 7))):
            for coins in (0, 1, 7, 63, 10 ** 6, 10 ** 30):
                for length in (0, 1, 2, 9, 60):
                    for place in {0, track.places - 1}:
                        found = sure_after(track, place, coins, length)
                        self.assertLessEqual(least_after(track, (found,) * track.places, length)[place], coins)
                        self.assertGreater(least_after(track, (found + 1,) * track.places, length)[place], coins)

    def test_factor(self):
        self.assertEqual(factor(T, 0, 2), (72, 41))
        self.assertEqual(factor(U, 1, 9), (1, 1))
        for track in TRACKS:
            for length in (0, 1, 2, 3, 17, 60):
                needed = amounts(track, (1,) * track.places, length)
                for place in range(track.places):
                    self.assertEqual((factor(track, place, length),), told([1 / needed[place]]))
                    if length == 0:
                        self.assertEqual(factor(track, place, length), (1, 1))

    def test_the_fourth_fact(self):
        for track in TRACKS[:15]:
            for place in range(track.places):
                for length in (0, 1, 3, 8, 60):
                    most = Fraction(*factor(track, place, length))
                    for coins in (0, 1, 5, 10 ** 20):
                        self.assertLessEqual(sure_after(track, place, coins, length), coins * most)
                factors = [Fraction(*factor(track, place, length)) for length in range(0, 61, 4)]
                self.assertEqual(factors, sorted(factors))
                if place in hopeful(track):
                    self.assertGreater(factors[-1], factors[5])
                else:
                    self.assertLessEqual(factors[-1], 9 ** len(row_to_full(track, place)))
        self.assertGreater(Fraction(*factor(T, 0, 60)), 10 ** 6)

    def test_errors_in_their_order(self):
        for track in (U, large()):
            self.raises_for(NoPlace, sure_after, (track, 0, -1, -1), 1, no_places(track))
            self.raises_for(NoPlace, factor, (track, 0, -1), 1, no_places(track))
        self.raises_for(NoCoins, sure_after, (T, 0, 0, -1), 2, odd_things())
        self.raises_for(NoNumber, sure_after, (T, 0, 0, 0), 3, no_numbers(60) + [61])
        self.raises_for(NoNumber, factor, (T, 0, 0), 2, no_numbers(60) + [61])


class WithinTest(unittest.TestCase, Errors):
    def test_going_on_over_purses(self):
        for track in TRACKS[:30]:
            for goal in (0, 1, 2, 5):
                levels = sure_levels(track, goal)
                for length in range(9):
                    level = levels[min(length, len(levels) - 1)]
                    slow = tuple(least_of(level, place, goal) for place in range(track.places))
                    self.assertEqual(least_within(track, goal, length), slow)

    def test_length_60_and_great_goals(self):
        for track in TRACKS[:20]:
            found = (80,) * track.places
            for _ in range(60):
                found = tuple(min(80, needs_at(track, place, found)) for place in range(track.places))
            self.assertEqual(least_within(track, 80, 60), found)
            self.assertEqual(least_within(track, 10 ** 30, 0), (10 ** 30,) * track.places)
            self.assertEqual(least_within(track, 0, 60), (0,) * track.places)
        self.assertEqual(least_within(Track(1, ((0, "a", 9, 0),)), 10 ** 39, 60), (1,))

    def test_soonest(self):
        for track in TRACKS[:30]:
            for goal in (0, 1, 4, 6):
                levels = sure_levels(track, goal)
                for place in range(track.places):
                    for coins in range(8):
                        lengths = [at for at, level in enumerate(levels) if coins >= goal or (place, coins) in level]
                        self.assertEqual(soonest(track, place, coins, goal), lengths[0] if lengths else None)

    def test_soonest_with_great_goals(self):
        self.assertEqual(soonest(T, 0, 1000, 1000), 0)
        self.assertEqual(soonest(T, 0, 10 ** 39, 1000), 0)
        self.assertIs(soonest(T, 0, 1, 1000), None)
        self.assertIs(soonest(U, 0, 999, 1000) is None, 999 < least_within(U, 1000, 60)[0])
        for track in (T, V, chain(2, (2, 5)), drawn(116, 12, "abcd")):
            for place in range(track.places):
                for coins in (3, 20, 600, 998, 999):
                    for goal in (1000, 999):
                        found = soonest(track, place, coins, goal)
                        if found is not None and 0 < found <= 60:
                            self.assertLessEqual(least_within(track, goal, found)[place], coins)
                            self.assertGreater(least_within(track, goal, found - 1)[place], coins)
                        elif found is None:
                            self.assertGreater(least_within(track, goal, 60)[place], coins)
        slow = soonest(chain(1, (2, 3, 7)), 0, 41, 1000)
        self.assertEqual(slow, 155)

    def test_peak(self):
        for track in TRACKS[:30]:
            least = least_coins(track)
            sure = [sure_levels(track, goal) for goal in range(10)]
            for place in range(track.places):
                for coins in range(5):
                    found = peak(track, place, coins)
                    if least[place] is not None and coins >= least[place]:
                        self.assertIs(found, None)
                    else:
                        goals = [goal for goal in range(10) if coins >= goal or (place, coins) in sure[goal][-1]]
                        self.assertEqual(min(found, 9), goals[-1])

    def test_peaks_about_1000(self):
        self.assertEqual([peak(ONE, 0, coins) for coins in (0, 1, 999, 1000)], [0, 1, 999, 1000])
        for coins in (1001, 1002, 10 ** 39):
            self.assertEqual(self.raises(TooMany, peak, ONE, 0, coins).most, 1000)
            self.assertIs(peak(T, 0, coins), None)
        # All that is laid on the one letter is doubled, four times, and then no more.
        line = Track(5, tuple((at, "a", 2, at + 1) for at in range(4)) + ((4, "a", 1, 4),))
        self.assertEqual([peak(line, 0, coins) for coins in (0, 1, 62)], [0, 16, 992])
        self.assertEqual([peak(line, 4, coins) for coins in (0, 62, 1000)], [0, 62, 1000])
        self.assertEqual(self.raises(TooMany, peak, line, 0, 63).most, 1000)
        self.assertEqual([peak(line, 1, coins) for coins in (124, 125)], [992, 1000])
        self.assertEqual(self.raises(TooMany, peak, line, 1, 126).most, 1000)
        # Hopeful, yet its least coins are far more than 1000, and what can be had is not.
        great = chain(2, (2, 3, 7))
        self.assertEqual(least_coins(great), (1722, 1763))
        self.assertEqual([peak(great, 0, coins) for coins in (0, 41, 100)], [0, 42, 102])
        self.assertEqual(self.raises(TooMany, peak, great, 0, 1721).most, 1000)
        self.assertIs(peak(great, 0, 1722), None)
        self.assertEqual(self.raises(TooMany, peak, great, 1, 1762).most, 1000)

    def test_peak_does_not_wait_for_the_least_coins_of_other_places(self):
        # These are more than six millions.
        great = chain(2, (5, 6, 7, 7, 8, 9, 9))
        self.assertEqual(peak(great, 0, 3), 3)
        self.assertEqual(self.raises(TooMany, peak, great, 0, 1500).most, 1000)

    def test_errors_in_their_order(self):
        for track in (U, large()):
            self.raises_for(NoPlace, soonest, (track, 0, -1, -1), 1, no_places(track))
            self.raises_for(NoPlace, peak, (track, 0, -1), 1, no_places(track))
        self.raises_for(NoCoins, soonest, (T, 0, 0, 1001), 2, odd_things())
        self.raises_for(NoCoins, soonest, (T, 0, 0, 0), 3, odd_things())
        self.raises_for(NoCoins, peak, (T, 0, 0), 2, odd_things())
        for coins in (0, 1000, 2000):
            for goal in (1001, 10 ** 39):
                self.assertEqual(self.raises(TooMany, soonest, T, 0, coins, goal).most, 1000)
        self.raises_for(NoCoins, least_within, (T, 0, -1), 1, odd_things())
        self.raises_for(NoNumber, least_within, (T, 0, 0), 2, no_numbers(60) + [61])


if __name__ == "__main__":
    unittest.main()
