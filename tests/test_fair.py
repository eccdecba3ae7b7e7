import unittest
from fractions import Fraction

from tests.helper import (
    BETTORS, DRAWN, GROWING, LINE, ONE, T, TRACKS, U, V, Errors, comes_to, drawn, first_letter, full_lots, large, lots,
    nested, no_numbers, nothing, odd_things, steps, walks, wrong_stakes,
)
from wholestakes.errors import BadStake, NoChances, NoCoins, NoLot, NoNumber, NoPlace, TooMany
from wholestakes.fair import fair, is_fair, mean_after
from wholestakes.lots import greatest_full, is_full
from wholestakes.strangers import played
from wholestakes.tracks import Track

BIG = large()
WIDE = tuple(drawn(seed, 9, "abcd") for seed in range(100, 130))
HALF = ((1, 2), (1, 2))
# Pays 0, 1, 2, 3 lead back, and one letter leads off.
PAYS = Track(2, ((0, "a", 0, 0), (0, "b", 1, 0), (0, "c", 2, 0), (0, "d", 3, 0), (0, "e", 0, 1), (1, "a", 2, 1)))
NO_LOTS = [0, [0], (1, 0), (0, 0), (0, 2), (-1,), (True,), (0, True), "0", {0: 0}, (0, 1, 2), (2,)]


def is_fraction(thing):
    return (
        type(thing) is tuple and len(thing) == 2 and all(type(part) is int for part in thing)
        and thing[1] >= 1 and thing[0] >= 0 and Fraction(*thing).as_integer_ratio() == thing
    )


def slow_fair(track, lot, told):
    """Whether tuples of fractions are fair chances by the words of the document."""
    if len(told) != len(lot):
        return False
    for place, chances in zip(lot, told):
        found = steps(track, place)
        if len(chances) != len(found) or not all(is_fraction(chance) for chance in chances):
            return False
        if sum(Fraction(*chance) for chance in chances) != 1:
            return False
        for chance, (_, pay, to) in zip(chances, found):
            if Fraction(*chance) * pay > 1 or (to not in lot and chance != (0, 1)):
                return False
    return True


class IsFairTest(unittest.TestCase, Errors):
    def test_the_example(self):
        self.assertIs(is_fair(U, (1,), (((0, 1), (1, 1)),)), True)

    def test_told_chances(self):
        for told, right in (
            (((1, 2), (1, 2)), True), (((1, 3), (2, 3)), False), (((1, 2), (1, 3)), False), (((1, 2), (2, 4)), False),
            (((2, 4), (2, 4)), False), (((1, 1), (0, 1)), False), (((1, 2), (1, 2), (0, 1)), False), (((1, 1),), False),
            (((3, 2), (-1, 2)), False), (((-1, -2), (1, 2)), False), (((1, 2), (1, 2, 0)), False), (((1, 2), [1, 2]), False),
            ([(1, 2), (1, 2)], False), (((True, 2), (1, 2)), False), (((1, 2), (1, 0)), False), ((1, 2), False), ((), False),
        ):
            self.assertIs(is_fair(ONE, (0,), (told,)), right, told)
        self.assertIs(is_fair(ONE, (0,), (HALF, HALF)), False)
        self.assertIs(is_fair(ONE, (0,), ()), False)
        self.assertIs(is_fair(ONE, (0,), [HALF]), False)
        self.assertIs(is_fair(ONE, (0,), HALF), False)
        self.assertIs(is_fair(U, (0, 1), (((1, 3), (2, 3)), ((0, 1), (1, 1)))), False)
        self.assertIs(is_fair(U, (1,), (((1, 4), (3, 4)),)), False)

    def test_a_letter_with_pay_0_can_have_each_chance(self):
        rest = (0, 1)
        for told, right in (
            (((1, 1), rest, rest, rest, rest), True), ((rest, (1, 1), rest, rest, rest), True),
            ((rest, rest, (1, 2), (1, 2), rest), False), (((1, 6), rest, (1, 2), (1, 3), rest), True),
            ((rest, (1, 6), (1, 2), (1, 3), rest), True), ((rest, rest, (1, 1), rest, rest), False),
            ((rest, rest, (1, 2), rest, (1, 2)), False), (((1, 2), (1, 2), rest, rest, (0, 2)), False),
            (((5, 12), (5, 12), (1, 12), (1, 12), rest), True), (((5, 12), (5, 12), (1, 12), (2, 12), rest), False),
        ):
            self.assertIs(is_fair(PAYS, (0,), (told,)), right, told)
            self.assertIs(slow_fair(PAYS, (0,), (told,)), right, told)

    def test_twelfths_of_all_kinds(self):
        choices = [Fraction(top, 12).as_integer_ratio() for top in range(13)]
        for track in (ONE, T, U, V, LINE) + DRAWN[:20]:
            for lot in list(lots(track))[:7]:
                right = fair(track, lot)
                for at, place in enumerate(lot):
                    count = len(steps(track, place))
                    for one in choices:
                        for more in choices[::4]:
                            told = ((one, more) + ((0, 1),) * count)[:count]
                            whole = tuple(told if here == place else (right or ((),) * len(lot))[number]
                                          for number, here in enumerate(lot))
                            self.assertIs(is_fair(track, lot, whole), slow_fair(track, lot, whole))

    def test_great_fractions(self):
        low = 10 ** 39
        told = (((low - 1, 2 * low - 2), (1, 2)),)
        self.assertIs(is_fair(ONE, (0,), told), False)
        track = Track(1, ((0, "a", 1, 0), (0, "b", 0, 0)))
        self.assertIs(is_fair(track, (0,), (((1, low), (low - 1, low)),)), True)
        self.assertIs(is_fair(track, (0,), (((1, low), (low - 2, low - 1)),)), False)

    def test_things_that_are_no_chances(self):
        for thing in odd_things():
            self.assertIs(is_fair(ONE, (0,), thing), False)
            self.assertIs(is_fair(ONE, (0,), (thing,)), False)
            self.assertIs(is_fair(ONE, (0,), ((thing, (1, 2)),)), False)
            self.assertIs(is_fair(ONE, (0,), (((1, 2), (1, thing)),)), False)
            self.assertIs(is_fair(ONE, (0,), (((thing, 2), (1, 2)),)), False)
            self.assertIs(is_fair(BIG, (0,), (thing,)), False)
        self.assertIs(is_fair(ONE, (0,), nested(36, (HALF,))), False)

    def test_no_lot(self):
        for track in (ONE, T, U):
            things = odd_things() + [thing for thing in NO_LOTS if track.places < 3]
            self.raises_for(NoLot, is_fair, (track, 0, "no chances"), 1, things)
        self.raises_for(NoLot, fair, (U, 0), 1, odd_things() + NO_LOTS)
        self.raises_for(NoLot, fair, (BIG, 0), 1, odd_things() + [(BIG.places,), (1, 0)])


class FairTest(unittest.TestCase):
    def test_just_for_full_lots(self):
        for track in TRACKS + GROWING + WIDE:
            full = set(full_lots(track))
            for lot in list(lots(track))[:200]:
                found = fair(track, lot)
                self.assertIs(found is not None, lot in full)
                if found is not None:
                    self.assertIs(type(found), tuple)
                    self.assertIs(is_fair(track, lot, found), True)
                    self.assertIs(slow_fair(track, lot, found), True)

    def test_the_greatest_lot(self):
        for track in WIDE + (BIG,):
            lot = greatest_full(track)
            if lot:
                self.assertIs(slow_fair(track, lot, fair(track, lot)), True)

    def test_pays_of_all_kinds(self):
        for first in range(10):
            for second in range(10):
                track = Track(1, ((0, "a", first, 0), (0, "b", second, 0), (0, "c", 3, 0), (0, "d", 6, 0)))
                right = comes_to(track, 0, (0,)) >= 1
                found = fair(track, (0,))
                self.assertIs(found is not None, right)
                self.assertIs(is_full(track, (0,)), right)
                if right:
                    self.assertIs(slow_fair(track, (0,), found), True)

    def test_told_chances(self):
        self.assertEqual(fair(ONE, (0,)), (HALF,))
        self.assertEqual(fair(U, (1,)), (((0, 1), (1, 1)),))
        self.assertIs(fair(U, (0,)), None)
        self.assertIs(fair(U, (0, 1)), None)
        self.assertIs(fair(T, (0, 1)), None)


def slow_mean(track, lot, chances, place, coins, bettor, length):
    """The mean over all rows, each with the product of its chances."""
    total = Fraction(0)
    for text, _, _ in walks(track, place, length):
        weight = Fraction(1)
        here = place
        for letter in text:
            if weight:
                number = [step[0] for step in steps(track, here)].index(letter)
                weight *= Fraction(*chances[lot.index(here)][number])
                here = steps(track, here)[number][2]
        if weight:
            total += weight * played(track, place, coins, bettor, text)[-1][0]
    return total


class MeanTest(unittest.TestCase, Errors):
    def test_the_sum_over_all_rows(self):
        for track in TRACKS[:30] + (BIG,):
            for lot in ([greatest_full(track)] if track is BIG else full_lots(track)[:3]):
                chances = fair(track, lot)
                for place in lot[-2:]:
                    for kind in BETTORS:
                        bettor = kind(track, place)
                        for coins in (0, 9):
                            for length in (0, 1, 3):
                                found = mean_after(track, lot, chances, place, coins, bettor, length)
                                self.assertIs(is_fraction(found), True)
                                self.assertEqual(Fraction(*found), slow_mean(track, lot, chances, place, coins, bettor, length))
                                self.assertLessEqual(Fraction(*found), coins)

    def test_told_means(self):
        self.assertEqual(mean_after(ONE, (0,), (HALF,), 0, 5, lambda text, coins: (coins, 0), 4), (5, 1))
        # All is lost behind "b", which pays nothing and has the chance that is left.
        track = Track(1, ((0, "a", 2, 0), (0, "b", 0, 0)))
        chances = (((1, 3), (2, 3)),)
        self.assertEqual(mean_after(track, (0,), chances, 0, 5, lambda text, coins: (coins, 0), 1), (10, 3))
        self.assertEqual(mean_after(track, (0,), chances, 0, 5, lambda text, coins: (coins, 0), 3), (40, 27))
        self.assertEqual(mean_after(track, (0,), chances, 0, 5, lambda text, coins: (0, 1) if coins > 2 else (0, 0), 2), (3, 1))
        self.assertEqual(mean_after(track, (0,), chances, 0, 5, lambda text, coins: (1, 0), 0), (5, 1))
        self.assertEqual(mean_after(track, (0,), chances, 0, 10 ** 39, first_letter(track, 0), 1), (2 * 10 ** 39, 3))

    def test_a_bettor_that_is_wrong_only_where_no_letter_comes(self):
        chances = fair(U, (1,))
        bettor = lambda text, coins: (1, 1) if "a" not in text else None
        self.assertEqual(mean_after(U, (1,), chances, 1, 9, bettor, 4), (1, 1))
        self.assertEqual(self.raises(BadStake, mean_after, U, (1,), (((0, 1), (1, 1)),), 1, 0, bettor, 1).row, "")
        track = Track(1, ((0, "a", 1, 0), (0, "b", 1, 0), (0, "c", 1, 0)))
        chances = (((1, 2), (0, 1), (1, 2)),)
        wrong = lambda bad: lambda text, coins: None if text in bad else (0, 0, 0)
        self.assertEqual(mean_after(track, (0,), chances, 0, 7, wrong(("b", "ab", "cb")), 3), (7, 1))
        self.assertEqual(self.raises(BadStake, mean_after, track, (0,), chances, 0, 7, wrong(("b", "ac", "c")), 3).row, "c")
        self.assertEqual(self.raises(BadStake, mean_after, track, (0,), chances, 0, 7, wrong(("ab", "ca", "ac")), 3).row, "ac")
        self.assertEqual(mean_after(track, (0,), chances, 0, 7, wrong(("ab", "ca", "ac")), 2), (7, 1))

    def test_bad_stakes(self):
        for wrong in wrong_stakes(8, 2):
            bettor = lambda text, coins: wrong if text in ("ab", "b") else (0, 0)
            self.assertEqual(self.raises(BadStake, mean_after, ONE, (0,), (HALF,), 0, 8, bettor, 3).row, "b")
            self.assertEqual(mean_after(ONE, (0,), (HALF,), 0, 8, lambda text, coins: wrong, 0), (8, 1))

    def test_the_number_of_rows(self):
        wide = Track(1, tuple((0, letter, 2, 0) for letter in "abcdefghijklm"))
        chances = (((1, 2), (1, 2)) + ((0, 1),) * 11,)
        self.assertEqual(mean_after(wide, (0,), chances, 0, 3, nothing(wide, 0), 2), (3, 1))
        error = self.raises(TooMany, mean_after, wide, (0,), chances, 0, 3, lambda text, coins: None, 3)
        self.assertEqual(error.most, 2000)
        self.assertEqual(mean_after(ONE, (0,), (HALF,), 0, 3, nothing(ONE, 0), 8), (3, 1))

    def test_errors_in_their_order(self):
        wrong = lambda text, coins: None
        lot, chances = (1,), fair(U, (1,))
        self.raises_for(NoLot, mean_after, (U, 0, "no", -1, -1, wrong, -1), 1, odd_things() + NO_LOTS)
        things = odd_things() + [(HALF,), list(chances), ((((0, 1), (1, 1)),),)]
        self.raises_for(NoChances, mean_after, (U, lot, 0, -1, -1, wrong, -1), 2, things)
        self.raises_for(NoChances, mean_after, (U, (0, 1), 0, -1, -1, wrong, -1), 2, things + [chances])
        self.raises_for(NoPlace, mean_after, (U, lot, chances, 0, -1, wrong, -1), 3, odd_things() + [0, 2, (1,)])
        self.raises_for(NoCoins, mean_after, (U, lot, chances, 1, 0, wrong, -1), 4, odd_things())
        self.raises_for(NoNumber, mean_after, (U, lot, chances, 1, 0, wrong, 0), 6, no_numbers(8))
        self.raises(BadStake, mean_after, U, lot, chances, 1, 0, wrong, 8)


if __name__ == "__main__":
    unittest.main()
