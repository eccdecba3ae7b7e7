import itertools
import unittest

from tests.helper import (
    DRAWN, GROWING, LINE, ONE, T, TRACKS, U, V, Errors, chain, drawn, large, least_of, nested, no_places, odd_things,
    slow_caps, slow_table, sure_levels,
)
from wholestakes.errors import NoCoins, NoFee, NoPlace
from wholestakes.fees import (
    caps_with_fee, greatest_fee, is_caps_with_fee, is_table_with_fee, least_with_fee, table_with_fee,
)
from wholestakes.growing import is_table, least_coins, table
from wholestakes.holding import is_caps
from wholestakes.lots import hopeful
from wholestakes.making import side
from wholestakes.tracks import Track

WIDE = tuple(drawn(seed, 12, "abcd") for seed in range(100, 120))
# One letter alone comes, and pays this; the coins go to and fro between two places.
PAYS = tuple(Track(1, ((0, "a", pay, 0),)) for pay in range(10))
SWING = Track(2, ((0, "a", 9, 1), (1, "a", 1, 0)))
ALL = TRACKS + GROWING + PAYS + (SWING,)
WRONG_FEES = [-1, 101, 10 ** 39, "0", (0,)]


def most_of(told):
    return max(coins or 0 for coins in told)


class LeastTest(unittest.TestCase, Errors):
    def test_the_example(self):
        self.assertEqual(least_with_fee(T, 1), (5, 4))

    def test_told_least_coins(self):
        self.assertEqual([least_with_fee(T, fee) for fee in range(5)], [(2, 2), (5, 4), (8, 6), (11, 8), (13, 10)])
        # With pay 2 and fee 1 one coin comes to one coin again, and two coins to three.
        self.assertEqual([least_with_fee(PAYS[2], fee) for fee in (0, 1, 2, 100)], [(1,), (2,), (3,), (101,)])
        self.assertEqual([least_with_fee(PAYS[9], fee) for fee in (0, 1, 7, 8, 100)], [(1,), (1,), (1,), (2,), (13,)])
        # To and fro with fee 4, one coin comes to five and to one again; with fee 3 to six and to three.
        self.assertEqual([least_with_fee(SWING, fee) for fee in (3, 4)], [(1, 4), (2, 6)])
        self.assertEqual(least_with_fee(side(U, SWING), 4), (None, None, 2, 6))
        self.assertEqual(least_with_fee(ONE, 0), (None,))

    def test_going_on_over_purses(self):
        count = 0
        for track in ALL:
            for fee in range(5):
                least = least_with_fee(track, fee)
                most = most_of(least)
                if most <= (9 if track.places < 3 else 6):
                    for goal in (most + 1, most + 2):
                        sure = sure_levels(track, goal, fee=fee)[-1]
                        for place in hopeful(track):
                            self.assertEqual(least_of(sure, place, goal), least[place], (track.arrows, fee))
                            count += 1
        self.assertGreater(count, 300)

    def test_just_at_hopeful_places(self):
        for track in ALL + WIDE + (large(),):
            for fee in (0, 1, 7, 100):
                least = least_with_fee(track, fee)
                self.assertEqual((type(least), len(least)), (tuple, track.places))
                told = tuple(place for place in range(track.places) if least[place] is not None)
                self.assertEqual(told, hopeful(track))

    def test_fee_0_and_no_fewer_coins_for_a_greater_fee(self):
        for track in ALL + WIDE + (large(), chain(2, (2, 3, 7))):
            before = least_coins(track)
            self.assertEqual(least_with_fee(track, 0), before)
            for fee in (1, 2, 3, 5, 50, 100):
                least = least_with_fee(track, fee)
                for place in hopeful(track):
                    self.assertGreaterEqual(least[place], before[place])
                before = least

    def test_no_fee(self):
        for track in (T, U, large()):
            self.raises_for(NoFee, least_with_fee, (track, 0), 1, odd_things() + WRONG_FEES)
            self.raises_for(NoFee, table_with_fee, (track, 0), 1, odd_things() + WRONG_FEES)
            self.raises_for(NoFee, is_table_with_fee, (track, 0, "no table"), 1, odd_things() + WRONG_FEES)
            self.raises_for(NoFee, is_caps_with_fee, (track, 0, "no caps"), 1, odd_things() + WRONG_FEES)
            self.raises_for(NoFee, caps_with_fee, (track, 0, -1, -1), 1, odd_things() + WRONG_FEES)


class TableTest(unittest.TestCase):
    def test_tables_with_the_least_coins(self):
        for track in ALL + WIDE + (large(), chain(2, (2, 3, 7))):
            for fee in (0, 1, 2, 17, 100):
                found = table_with_fee(track, fee)
                self.assertEqual(tuple(None if entry is None else entry[0] for entry in found), least_with_fee(track, fee))
                self.assertIs(is_table_with_fee(track, fee, found), True)
                self.assertIs(slow_table(track, found, fee=fee), True)

    def test_fee_0_is_no_fee(self):
        for track in ALL:
            self.assertIs(is_table_with_fee(track, 0, table(track)), True)
            if hopeful(track):
                self.assertIs(is_table_with_fee(track, 100, table(track)), False)
                self.assertIs(is_table(track, table_with_fee(track, 100)), True)

    def test_one_number_changed(self):
        count = 0
        for track in TRACKS[:30] + GROWING + PAYS[2:]:
            for fee in (1, 3):
                found = table_with_fee(track, fee)
                for place in hopeful(track):
                    coins, turns, stake = found[place]
                    changed = [(coins + more, turns, stake) for more in (-1, 1)]
                    changed += [(coins, max(0, turns + more), stake) for more in (-1, 1)]
                    for at, laid in enumerate(stake):
                        others = [stake[:at] + (other,) + stake[at + 1:] for other in (laid - 1, laid + 1) if other >= 0]
                        changed += [(coins, turns, told) for told in others]
                    for entry in changed + [None]:
                        told = found[:place] + (entry,) + found[place + 1:]
                        right = slow_table(track, told, fee=fee)
                        self.assertIs(is_table_with_fee(track, fee, told), right)
                        count += not right
        self.assertGreater(count, 200)

    def test_all_small_tables(self):
        for fee in range(4):
            for coins, turns, laid in itertools.product(range(6), range(2), range(6)):
                for track in PAYS[1:5]:
                    told = ((coins, turns, (laid,)),)
                    self.assertIs(is_table_with_fee(track, fee, told), slow_table(track, told, fee=fee))

    def test_a_fee_that_cannot_be_given(self):
        # Behind "b" there is one coin, and no coin with the fee; with fee 2 the fee cannot be given.
        track = Track(2, ((0, "a", 9, 1), (0, "b", 1, 1), (1, "a", 9, 1)))
        for coins, fee, right in ((1, 1, True), (1, 2, False), (2, 2, True), (2, 3, False)):
            least = {1: 1, 2: 1, 3: 1}[fee]
            told = ((coins, 5, (0, 0)), (least, 0, (least,)))
            self.assertIs(is_table_with_fee(track, fee, told), slow_table(track, told, fee=fee))
            told = ((coins + 1, 5, (0, 0)), (least, 0, (least,)))
            self.assertIs(is_table_with_fee(track, fee, told), right)
        # A place of which it is told that no coins are enough: what cannot be given is no table.
        stay = Track(1, ((0, "a", 9, 0),))
        self.assertIs(is_table_with_fee(stay, 1, ((0, 0, (0,)),)), False)
        self.assertIs(is_table_with_fee(stay, 9, ((1, 0, (1,)),)), False)
        self.assertIs(is_table_with_fee(stay, 8, ((1, 0, (1,)),)), False)
        self.assertIs(is_table_with_fee(stay, 7, ((1, 0, (1,)),)), True)

    def test_things_that_are_no_table(self):
        for fee in (0, 1, 100):
            for thing in odd_things() + [[None, None], (None,), (None, None, None), {0: None, 1: None}, 0]:
                self.assertIs(is_table_with_fee(T, fee, thing), False)
                self.assertIs(is_table_with_fee(T, fee, ((5, 2, thing), None)), False)
                self.assertIs(is_table_with_fee(T, fee, ((5, thing, (1, 1)), None)), False)
                self.assertIs(is_table_with_fee(T, fee, (thing, None)), thing is None)
        right = table_with_fee(T, 1)
        self.assertIs(is_table_with_fee(T, 1, right), True)
        for wrong in (list(right), [list(entry) for entry in right], (list(right[0]), right[1]), right[:1], right + right):
            self.assertIs(is_table_with_fee(T, 1, wrong), False)
        (coins, turns, stake), other = right
        for entry in ((coins, turns, list(stake)), (coins, turns), (coins, turns, stake, 0), (True, turns, stake),
                      (coins, True, stake), (coins, turns, (True,) * len(stake)), (coins, turns, (-1, 2))):
            self.assertIs(is_table_with_fee(T, 1, (entry, other)), False)
        self.assertIs(is_table_with_fee(T, 0, (None, None)), True)
        self.assertIs(is_table_with_fee(T, 1, nested(36, right)), False)


class CapsTest(unittest.TestCase, Errors):
    def test_all_stakes_of_few_coins(self):
        for track in (ONE, T, U, V, SWING) + PAYS + GROWING[:12] + DRAWN[:12]:
            if track.places < 4:
                for fee in (0, 1, 2, 5):
                    for told in itertools.product((None, 0, 1, 2, 3, 4)[:9 - 2 * track.places], repeat=track.places):
                        right = slow_caps(track, told, fee=fee)
                        self.assertIs(is_caps_with_fee(track, fee, told), right, (track.arrows, fee, told))

    def test_who_is_out_has_fewer_than_any_cap(self):
        self.assertIs(is_caps_with_fee(PAYS[1], 5, (0,)), True)
        self.assertIs(is_caps_with_fee(PAYS[1], 5, (4,)), True)
        self.assertIs(is_caps_with_fee(PAYS[9], 100, (0,)), True)
        self.assertIs(is_caps_with_fee(PAYS[9], 100, (12,)), True)
        self.assertIs(is_caps_with_fee(PAYS[9], 100, (13,)), False)

    def test_a_letter_to_a_place_without_a_cap_does_not_count(self):
        track = Track(2, ((0, "a", 9, 0), (0, "b", 0, 1), (1, "a", 0, 1)))
        for fee in (0, 1, 100):
            self.assertIs(is_caps_with_fee(track, fee, (1, None)), 9 - fee <= 1)
            self.assertIs(is_caps_with_fee(track, fee, (1, 1)), True)
            self.assertIs(is_caps_with_fee(track, fee, (None, 10 ** 39)), True)
        line = Track(2, ((0, "a", 0, 1), (1, "a", 2, 1)))
        for fee in (0, 1, 100):
            self.assertIs(is_caps_with_fee(line, fee, (0, None)), False)
            self.assertIs(is_caps_with_fee(line, fee, (0, 0)), True)

    def test_caps_of_no_fee_are_caps_with_each(self):
        for track in TRACKS + GROWING:
            for told in itertools.product((None, 0, 2), repeat=min(track.places, 4)):
                if len(told) == track.places and is_caps(track, told):
                    for fee in (0, 1, 100):
                        self.assertIs(is_caps_with_fee(track, fee, told), True)

    def test_things_that_are_no_caps(self):
        for fee in (0, 3):
            for track in TRACKS + (large(),):
                self.assertIs(is_caps_with_fee(track, fee, (None,) * track.places), False)
            for thing in odd_things() + [[1, 1], (1,), (1, 1, 1), (True, 1), (1, False), (1, -1), (1, "1"), {0: 1, 1: 1}, 1]:
                self.assertIs(is_caps_with_fee(U, fee, thing), False)
            for thing in odd_things():
                self.assertIs(is_caps_with_fee(ONE, fee, (thing,)), False)
                self.assertIs(is_caps_with_fee(U, fee, (thing, 5)), thing is None)

    def test_caps_with_fee_and_the_tenth_fact(self):
        for track in ALL + WIDE[:10] + (large(), chain(2, (2, 3, 7))):
            for fee in (0, 1, 4, 100):
                least = least_with_fee(track, fee)
                for place in range(track.places)[-6:]:
                    amounts = [0, 1, 10 ** 30]
                    if least[place] is not None:
                        amounts += [least[place] - 1, least[place], least[place] + 1]
                    for coins in amounts:
                        found = caps_with_fee(track, fee, place, coins)
                        if least[place] is not None and coins >= least[place]:
                            self.assertIs(found, None)
                        else:
                            self.assertIs(type(found), tuple)
                            self.assertGreaterEqual(found[place], coins)
                            self.assertIs(is_caps_with_fee(track, fee, found), True)
                            if most_of(found) <= 8 and track.places < 5:
                                self.assertIs(slow_caps(track, found, fee=fee), True)

    def test_the_least_coins_less_one_are_caps_and_no_coin_more(self):
        for track in ALL + WIDE + (large(),):
            if hopeful(track):
                for fee in (1, 10):
                    told = tuple(None if coins is None else coins - 1 for coins in least_with_fee(track, fee))
                    self.assertIs(is_caps_with_fee(track, fee, told), True)
                    for place in hopeful(track):
                        more = tuple(cap if at != place else cap + 1 for at, cap in enumerate(told))
                        self.assertIs(is_caps_with_fee(track, fee, more), False)

    def test_errors_in_their_order(self):
        for track in (T, U, large()):
            self.raises_for(NoPlace, caps_with_fee, (track, 1, 0, -1), 2, no_places(track))
            self.raises_for(NoCoins, caps_with_fee, (track, 1, 0, 0), 3, odd_things())


class GreatestTest(unittest.TestCase, Errors):
    def test_the_greatest_fee_for_which_the_coins_are_enough(self):
        for track in ALL[::2] + WIDE[:6]:
            least = [least_with_fee(track, fee) for fee in range(101)]
            for place in range(track.places)[:6]:
                for coins in (0, 1, 2, 5, 13, 150, 1000, 10 ** 30):
                    fits = [fee for fee in range(101) if least[fee][place] is not None and least[fee][place] <= coins]
                    self.assertEqual(greatest_fee(track, place, coins), max(fits, default=None))

    def test_told_fees(self):
        self.assertEqual([greatest_fee(T, 0, coins) for coins in (1, 2, 4, 5, 12, 13)], [None, 0, 0, 1, 3, 4])
        self.assertEqual([greatest_fee(PAYS[2], 0, coins) for coins in (0, 1, 2, 3, 100, 101, 102)],
                         [None, 0, 1, 2, 99, 100, 100])
        for track in (T, SWING, LINE):
            self.assertEqual(greatest_fee(track, 0, 10 ** 39), 100)
        for track, place in ((U, 0), (U, 1), (ONE, 0)):
            for coins in (0, 1, 10 ** 39):
                self.assertIs(greatest_fee(track, place, coins), None)

    def test_errors_in_their_order(self):
        for track in (T, U, large()):
            self.raises_for(NoPlace, greatest_fee, (track, 0, -1), 1, no_places(track))
            self.raises_for(NoCoins, greatest_fee, (track, 0, 0), 2, odd_things())


if __name__ == "__main__":
    unittest.main()
