import itertools
import unittest

from tests.helper import LINE, ONE, T, TRACKS, U, V, Errors, full_lots, large, no_places, odd_things, stakes, steps
from wholestakes.errors import NoCoins, NoLetter, NoLot, NoPlace, NoStake
from wholestakes.lots import greatest_full
from wholestakes.stakes import answer, is_stake, outcome, outcomes


class StakesTest(unittest.TestCase, Errors):
    def test_the_examples(self):
        self.assertEqual(outcome(T, 0, 5, (2, 3), "a"), (6, 0))
        self.assertEqual(answer(U, (1,), 1, 4, (4, 0)), "b")

    def test_is_stake(self):
        for track in (ONE, V, LINE):
            for place in range(track.places):
                for length in range(4):
                    for thing in itertools.product((0, 1, 2, 4), repeat=length):
                        right = length == len(steps(track, place)) and sum(thing) <= 4
                        self.assertIs(is_stake(track, place, 4, thing), right)
        self.assertIs(is_stake(T, 0, 10 ** 39, (10 ** 39, 0)), True)
        self.assertIs(is_stake(T, 0, 10 ** 39, (10 ** 39, 1)), False)
        self.assertIs(is_stake(T, 0, 0, (0, 0)), True)
        self.assertIs(is_stake(T, 0, 0, (0, 1)), False)

    def test_things_that_are_no_stake(self):
        for thing in odd_things() + [0, [1, 1], (-1, 1), (1, -1), (True, 1), (1, False), (1, "1"), (1,), (1, 1, 1), "ab"]:
            self.assertIs(is_stake(T, 0, 4, thing), False)
            self.raises(NoStake, outcome, T, 0, 4, thing, "?")
            self.raises(NoStake, outcomes, T, 0, 4, thing)
            self.raises(NoStake, answer, U, (1,), 1, 4, thing)
        for thing in odd_things():
            self.assertIs(is_stake(T, 0, 4, (thing, 0)), False)
            self.assertIs(is_stake(T, 0, 4, (0, thing)), False)

    def test_outcomes_by_own_reckoning(self):
        for track in TRACKS[:14]:
            for place in range(track.places):
                for stake in stakes(track, place, 3):
                    told = []
                    for laid, (letter, pay, to) in zip(stake, steps(track, place)):
                        told.append((letter, 3 - sum(stake) + laid * pay, to))
                        self.assertEqual(outcome(track, place, 3, stake, letter), told[-1][1:])
                    found = outcomes(track, place, 3, stake)
                    self.assertEqual(found, told)
                    self.assertIs(type(found), list)

    def test_lists_are_new(self):
        found = outcomes(T, 0, 5, (2, 3))
        found.clear()
        self.assertEqual(outcomes(T, 0, 5, (2, 3)), [("a", 6, 0), ("b", 6, 1)])

    def test_large_numbers_and_tracks(self):
        self.assertEqual(outcome(T, 1, 10 ** 39, (10 ** 39, 0), "a"), (4 * 10 ** 39, 0))
        behind = outcome(T, 1, 10 ** 39, (10 ** 39, 0), "a")[0]
        self.assertEqual(outcome(T, 0, behind * 10 ** 10, (0, behind), "b"), (behind * (10 ** 10 + 1), 1))
        track = large()
        for place in range(track.places):
            stake = tuple(range(len(steps(track, place))))
            told = [
                (letter, 9 - sum(stake) + laid * pay, to)
                for laid, (letter, pay, to) in zip(stake, steps(track, place))
            ]
            self.assertEqual(outcomes(track, place, 9, stake), told)

    def test_errors_in_their_order(self):
        for track in (T, large()):
            self.raises_for(NoPlace, is_stake, (track, 0, -1, None), 1, no_places(track))
            self.raises_for(NoPlace, outcome, (track, 0, -1, None, None), 1, no_places(track))
            self.raises_for(NoPlace, outcomes, (track, 0, -1, None), 1, no_places(track))
        self.raises_for(NoCoins, is_stake, (T, 0, 0, None), 2, odd_things() + ["1"])
        self.raises_for(NoCoins, outcome, (T, 0, 0, None, None), 2, odd_things() + ["1"])
        self.raises_for(NoCoins, outcomes, (T, 0, 0, None), 2, odd_things() + ["1"])
        self.raises(NoStake, outcome, T, 0, 4, (2, 3), "a")
        self.raises(NoStake, outcomes, T, 0, 4, (2, 3))
        letters = ["c", "ab", 0] + [thing for thing in odd_things() if thing != "a"]
        self.raises_for(NoLetter, outcome, (T, 0, 5, (2, 3), "a"), 4, letters)
        self.raises(NoLetter, outcome, LINE, 0, 5, (2, 3), "a")


class AnswerTest(unittest.TestCase, Errors):
    def test_the_least_letter_that_leads_back_and_holds(self):
        for track in TRACKS:
            for lot in full_lots(track):
                for place in lot:
                    for coins in (0, 1, 4):
                        for stake in stakes(track, place, coins):
                            told = [
                                letter
                                for laid, (letter, pay, to) in zip(stake, steps(track, place))
                                if to in lot and pay * laid <= sum(stake)
                            ]
                            self.assertTrue(told)
                            self.assertEqual(answer(track, lot, place, coins, stake), told[0])

    def test_just_as_many_coins_are_no_more(self):
        self.assertEqual(answer(ONE, (0,), 0, 4, (2, 2)), "a")
        self.assertEqual(answer(ONE, (0,), 0, 4, (3, 1)), "b")
        self.assertEqual(answer(ONE, (0,), 0, 0, (0, 0)), "a")

    def test_large_tracks(self):
        track = large()
        lot = greatest_full(track)
        self.assertGreater(len(lot), 1)
        for place in lot:
            stake = (1,) * len(steps(track, place))
            letter = answer(track, lot, place, 9, stake)
            coins, to = outcome(track, place, 9, stake, letter)
            self.assertTrue(to in lot and coins <= 9)

    def test_errors_in_their_order(self):
        for thing in odd_things() + [(0,), (0, 1), (2,), [1], 1, (1, 1)]:
            self.raises(NoLot, answer, U, thing, None, None, None)
        self.raises_for(NoPlace, answer, (U, (1,), 1, -1, None), 2, no_places(U) + [0])
        self.raises_for(NoCoins, answer, (U, (1,), 1, 0, None), 3, odd_things())
        self.raises(NoStake, answer, U, (1,), 1, 3, (4, 0))
        self.raises(NoPlace, answer, U, (1,), True, 4, (4, 0))
        self.raises(NoLot, answer, T, (0,), 0, 4, (4, 0))


if __name__ == "__main__":
    unittest.main()
