import itertools
import random
import unittest
from fractions import Fraction
from math import gcd

from tests.helper import (
    DRAWN, LINE, ONE, T, TRACKS, U, V, Errors, large, meets, needs_at, no_places, odd_things, slow_least, stakes, steps,
)
from wholestakes.errors import NoCoins, NoGoals, NoPlace
from wholestakes.goals import least_for, parts_for, stake_for
from wholestakes.stakes import is_stake
from wholestakes.tracks import Track


def star(*pays):
    """A track from whose place 0 each letter leads to a place of its own."""
    count = len(pays)
    arrows = [(0, "abcdefghijklmnopqrstuvwxyz"[at], pay, 1 + at) for at, pay in enumerate(pays)]
    return Track(count + 1, tuple(arrows) + tuple((1 + at, "a", 1, 1 + at) for at in range(count)))


def fan(*pays):
    """A track whose letters lead by turns to its places 0 and 1."""
    arrows = [(0, "abcdefghijklmnopqrstuvwxyz"[at], pay, at % 2) for at, pay in enumerate(pays)]
    return Track(2, tuple(arrows) + ((1, "a", 1, 1),))


def parts_needed(track, place, goals):
    """The least amount: between two goals it changes evenly, so that it is least where a goal or nothing is kept."""
    wants = [(pay, goals[to] or 0) for _, pay, to in steps(track, place)]
    found = []
    for kept in [0] + [goal for _, goal in wants]:
        if all(pay > 0 or goal <= kept for pay, goal in wants):
            found.append(kept + sum(Fraction(goal - kept, pay) for pay, goal in wants if goal > kept))
    return min(found)


def told(fraction):
    return (fraction.numerator, fraction.denominator)


def some_goals(track, kinds):
    return list(itertools.product(kinds, repeat=track.places)) if track.places < 4 else [
        tuple(random.Random(seed).choices(kinds, k=track.places)) for seed in range(40)
    ]


class LeastForTest(unittest.TestCase, Errors):
    def test_the_examples(self):
        self.assertEqual(least_for(T, 0, (5, 5)), 5)
        self.assertEqual(parts_for(T, 0, (5, 5)), (25, 6))

    def test_all_stakes_of_ever_more_coins(self):
        for track in TRACKS[:24]:
            for goals in some_goals(track, (None, 0, 1, 3, 6)):
                for place in range(track.places):
                    self.assertEqual(least_for(track, place, goals), slow_least(track, place, goals), (track.arrows, goals))

    def test_whatever_is_kept(self):
        draw = random.Random(1)
        for track in TRACKS:
            for most in (3, 30, 300):
                for _ in range(6):
                    goals = tuple(draw.choice((None, 0, draw.randint(0, most), most)) for _ in range(track.places))
                    for place in range(track.places):
                        self.assertEqual(least_for(track, place, goals), needs_at(track, place, goals))

    def test_many_letters_and_all_pays(self):
        draw = random.Random(2)
        for count in (1, 2, 3, 5, 7, 11):
            for _ in range(12):
                track = star(*[draw.choice((0, 1, 2, 3, 4, 5, 6, 7, 8, 9, 9, 9, 8, 7)) for _ in range(count)])
                for near in (3, 200):
                    goals = (None,) + tuple(200 - draw.randint(0, near) for _ in range(count))
                    self.assertEqual(least_for(track, 0, goals), needs_at(track, 0, goals))
                self.assertEqual(least_for(track, 1, (None,) + (7,) * count), 7)

    def test_where_the_most_is_won_far_from_the_goals(self):
        # Here the best is kept where what is laid on all letters comes out even.
        for pays in ((2, 3, 6), (2, 4, 5), (3, 4, 5, 6, 9), (5, 6, 7, 7, 8, 9, 9), (7, 8, 9, 2, 9), (2, 5, 7, 8), (3, 3, 3)):
            track = star(*pays)
            for seed in range(6):
                goals = (None,) + tuple(random.Random(seed).randint(3000, 9000) for _ in pays)
                self.assertEqual(least_for(track, 0, goals), needs_at(track, 0, goals))
                self.assertEqual(least_for(track, 0, (None,) + (4999 + seed,) * len(pays)), needs_at(
                    track, 0, (None,) + (4999 + seed,) * len(pays)))

    def test_goals_that_are_very_great(self):
        draw = random.Random(3)
        for _ in range(60):
            track = star(*[draw.choice((2, 3, 4, 5, 6, 7, 8, 9, 9, 9)) for _ in range(draw.randint(2, 6))])
            count = track.places - 1
            goals = (None,) + tuple(10 ** 30 + draw.choice((1, 5, 10 ** 5, 10 ** 29)) * draw.randint(-9, 9) for _ in range(count))
            found = []
            # What is laid comes again evenly after 2520 coins kept, so that the least is near a goal or near nothing.
            for bound in (0,) + goals[1:]:
                for kept in range(max(0, bound - 2520), bound + 2520, 1 if count < 4 else 7):
                    found.append(kept + sum(-(-max(0, goal - kept) // pay) for goal, (_, pay, _) in zip(
                        goals[1:], steps(track, 0))))
            least = least_for(track, 0, goals)
            self.assertLessEqual(least, min(found))
            if count < 4:
                self.assertEqual(least, min(found))
            self.assertTrue(meets(track, 0, least, stake_for(track, 0, least, goals), goals))

    def test_26_letters(self):
        draw = random.Random(4)
        for pays in ((9,) * 26, (0,) * 26, (1,) * 26, tuple(draw.randint(2, 9) for _ in range(26))):
            track = fan(*pays)
            for goals in ((7, 7), (None, 40), (40, None), (90, 100), (0, 0), (None, None), (10 ** 30, 10 ** 30)):
                self.assertEqual(least_for(track, 0, goals), (
                    max(goal or 0 for goal in goals) if 10 ** 30 in goals else needs_at(track, 0, goals)))

    def test_pays_of_0_and_1(self):
        for pay in (0, 1):
            track = star(pay, 9)
            self.assertEqual(least_for(track, 0, (None, 5, 5)), 5)
            self.assertEqual(least_for(track, 0, (None, 5, 23)), 7)
            self.assertEqual(least_for(track, 0, (None, 10 ** 30, None)), 10 ** 30)
            self.assertEqual(stake_for(track, 0, 7, (None, 5, 23)), (0, 2))
            self.assertEqual(parts_for(track, 0, (None, 5, 23)), (7, 1))
            self.assertEqual(parts_for(track, 0, (None, 5, 24)), (64, 9))
        self.assertEqual(least_for(LINE, 0, (None, 3, 2, None)), 3)

    def test_None_and_0_want_nothing(self):
        for track in TRACKS:
            for place in range(track.places):
                for goals in ((None,) * track.places, (0,) * track.places):
                    self.assertEqual(least_for(track, place, goals), 0)
                    self.assertEqual(parts_for(track, place, goals), (0, 1))
                    self.assertTrue(is_stake(track, place, 0, stake_for(track, place, 0, goals)))


class StakeForTest(unittest.TestCase):
    def test_stakes_with_the_least_coins_and_more(self):
        draw = random.Random(5)
        for track in TRACKS:
            for most in (4, 50, 10 ** 30):
                goals = tuple(draw.choice((None, draw.randint(0, most), most)) for _ in range(track.places))
                for place in range(track.places):
                    least = least_for(track, place, goals)
                    for more in (0, 1, 7, 10 ** 30):
                        stake = stake_for(track, place, least + more, goals)
                        self.assertIs(is_stake(track, place, least + more, stake), True)
                        self.assertTrue(meets(track, place, least + more, stake, goals))
                    if least > 0:
                        self.assertIs(stake_for(track, place, least - 1, goals), None)

    def test_None_just_where_no_stake_meets_them(self):
        for track in DRAWN[:12]:
            for goals in some_goals(track, (None, 2, 5)):
                for place in range(track.places):
                    for coins in range(6):
                        some = any(meets(track, place, coins, stake, goals) for stake in stakes(track, place, coins))
                        self.assertIs(stake_for(track, place, coins, goals) is not None, some)


class PartsForTest(unittest.TestCase):
    def test_by_own_reckoning_in_lowest_terms(self):
        draw = random.Random(6)
        for track in TRACKS + (large(),):
            for most in (5, 100, 10 ** 30):
                goals = tuple(draw.choice((None, draw.randint(0, most), most)) for _ in range(track.places))
                for place in range(track.places):
                    found = parts_for(track, place, goals)
                    self.assertEqual(found, told(parts_needed(track, place, goals)))
                    self.assertEqual((type(found), gcd(*found)), (tuple, 1))

    def test_whole_coins_told_in_many_parts_come_as_near_as_one_likes(self):
        draw = random.Random(7)
        for track in TRACKS:
            goals = tuple(draw.randint(0, 40) for _ in range(track.places))
            for place in range(track.places):
                many = least_for(track, place, tuple(goal * 2520 * 10 ** 9 for goal in goals))
                found = Fraction(*parts_for(track, place, goals))
                self.assertTrue(found <= Fraction(many, 2520 * 10 ** 9) < found + Fraction(1, 10 ** 9))

    def test_the_third_fact(self):
        draw = random.Random(8)
        for track in TRACKS:
            for most in (3, 30, 10 ** 30):
                goals = tuple(draw.choice((None, draw.randint(0, most))) for _ in range(track.places))
                for place in range(track.places):
                    parts = Fraction(*parts_for(track, place, goals))
                    least = least_for(track, place, goals)
                    self.assertTrue(parts <= least < parts + len(steps(track, place)))


class GoalsErrorsTest(unittest.TestCase, Errors):
    def test_things_that_are_no_goals(self):
        wrong = odd_things() + [(5,), (5, 5, 5), [5, 5], (5, -1), (-1, 5), (True, 5), (5, False), (5, "5"), (5, (5,)), {0: 5}, 5]
        for function, begin in ((least_for, (T, 0)), (stake_for, (T, 0, 5)), (parts_for, (T, 0))):
            for thing in wrong:
                self.raises(NoGoals, function, *begin, thing)
            for thing in odd_things():
                if thing is not None:
                    self.raises(NoGoals, function, *begin, (5, thing))
                    self.raises(NoGoals, function, *begin, (thing, 5))
        self.raises(NoGoals, least_for, ONE, 0, ())
        self.raises(NoGoals, parts_for, V, 0, (1, 1))

    def test_errors_in_their_order(self):
        for track in (T, U, large()):
            self.raises_for(NoPlace, least_for, (track, 0, None), 1, no_places(track))
            self.raises_for(NoPlace, parts_for, (track, 0, None), 1, no_places(track))
            self.raises_for(NoPlace, stake_for, (track, 0, -1, None), 1, no_places(track))
            self.raises_for(NoCoins, stake_for, (track, 0, -1, None), 2, odd_things() + ["5", (5,)])


if __name__ == "__main__":
    unittest.main()
