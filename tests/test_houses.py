import random
import unittest

from tests.helper import (
    DRAWN, GROWING, LINE, ONE, T, TRACKS, U, V, Errors, behind, chain, drawn, large, nested, no_places, odd_things, steps,
)
from wholestakes.errors import Grows, NoCoins, NoPlace, NoStake, NothingDone
from wholestakes.growing import least_coins, table
from wholestakes.holding import caps, is_caps
from wholestakes.houses import House
from wholestakes.lots import hopeful

BIG = large()
WIDE = tuple(drawn(seed, 12, "abcd") for seed in range(100, 120))


def state(house):
    return house.coins(), house.place(), house.text(), house.depth()


def whole(house):
    """All that a house tells, now and after each step back; a copy is gone back with."""
    other = house.copy()
    found = [house.caps(), state(other)]
    while other.depth():
        other.back()
        found.append(state(other))
    return found


def idle(track, place):
    return (0,) * len(steps(track, place))


def by_table(track):
    """A way to lay: the stake of the table as far as the coins go."""
    told = table(track)

    def lay(place, coins, _):
        stake = idle(track, place) if told[place] is None else told[place][2]
        left = coins
        found = []
        for laid in stake:
            found.append(min(laid, left))
            left -= found[-1]
        return tuple(found)
    return lay


def all_on_one(track):
    def lay(place, coins, draw):
        count = len(steps(track, place))
        at = draw.randrange(count)
        return tuple(coins if number == at else 0 for number in range(count))
    return lay


def none(track):
    return lambda place, coins, draw: idle(track, place)


def spread(track):
    """A way to lay: as much on each letter as can be, by chance a coin less."""
    def lay(place, coins, draw):
        count = len(steps(track, place))
        return tuple(max(0, coins // count - draw.randint(0, 1)) for _ in range(count))
    return lay


WAYS = (by_table, all_on_one, none, spread)


class AnswerTest(unittest.TestCase, Errors):
    def check(self, track, place, coins, lay, count):
        """Some answers of a house, by own account."""
        draw = random.Random(place)
        house = House(track, place, coins)
        bounds = house.caps()
        self.assertIs(is_caps(track, bounds), True)
        self.assertGreaterEqual(bounds[place], coins)
        told = [(coins, place, "", 0)]
        text = ""
        for at in range(count):
            self.assertEqual(state(house), told[-1])
            stake = lay(place, coins, draw)
            letter = house.answer(stake)
            number = [step[0] for step in steps(track, place)].index(letter)
            place, coins = behind(track, place, coins, stake)[number]
            text += letter
            told.append((coins, place, text, at + 1))
            self.assertLessEqual(coins, bounds[place])
            self.assertEqual(house.caps(), bounds)
        self.assertEqual(state(house), told[-1])
        while len(told) > 1:
            told.pop()
            self.assertIs(house.back(), None)
            self.assertEqual(state(house), told[-1])
            self.assertEqual(house.caps(), bounds)
        self.raises(NothingDone, house.back)
        self.assertEqual(state(house), told[-1])

    def test_answers_by_own_account(self):
        for track in TRACKS + GROWING + WIDE + (BIG, chain(2, (2, 3, 7))):
            least = least_coins(track)
            ways = [way(track) for way in WAYS]
            for place in range(track.places)[-3:]:
                for coins in (0, 1, 25, 10 ** 30) if least[place] is None else (0, least[place] - 1):
                    for lay in ways:
                        self.check(track, place, coins, lay, 9)

    def test_many_answers(self):
        for track, place, coins in ((U, 1, 9), (U, 0, 10 ** 30), (ONE, 0, 10 ** 30), (T, 1, 1), (V, 1, 2), (V, 0, 1)):
            for way in WAYS:
                self.check(track, place, coins, way(track), 80)

    def test_the_bettor_does_not_grow_behind_an_answer(self):
        for track in (T, V, LINE, U) + GROWING + DRAWN[:15]:
            least = least_coins(track)
            for place in range(track.places):
                coins = 5 if least[place] is None else least[place] - 1
                house = House(track, place, coins)
                lay = spread(track)
                draw = random.Random(3)
                for _ in range(12):
                    house.answer(lay(house.place(), house.coins(), draw))
                    self.assertIsNot(caps(track, house.place(), house.coins()), None)
                    least_here = least[house.place()]
                    self.assertTrue(least_here is None or house.coins() < least_here)

    def test_told_answers(self):
        house = House(U, 1, 4)
        self.assertEqual(house.answer((4, 0)), "b")
        self.assertEqual(state(house), (0, 1, "b", 1))
        house.back()
        self.assertEqual(house.answer((2, 0)), "b")
        self.assertEqual(state(house), (2, 1, "b", 1))
        house = House(T, 0, 1)
        self.assertEqual(house.answer((1, 0)), "b")
        self.assertEqual(state(house), (0, 1, "b", 1))

    def test_grows_just_where_there_are_no_caps(self):
        for track in TRACKS + GROWING + WIDE + (BIG,):
            least = least_coins(track)
            for place in hopeful(track)[-3:]:
                for coins in (least[place], least[place] + 1, 10 ** 39):
                    self.assertIs(caps(track, place, coins), None)
                    self.raises(Grows, House, track, place, coins)
                self.assertEqual(state(House(track, place, least[place] - 1)), (least[place] - 1, place, "", 0))

    def test_wrong_constructions(self):
        for track in (T, U, BIG):
            self.raises_for(NoPlace, House, (track, 0, -1), 1, no_places(track))
            self.raises_for(NoCoins, House, (track, 0, 0), 2, odd_things())
        self.raises_for(NoPlace, House, (T, 0, 10 ** 39), 1, no_places(T))

    def test_no_stake(self):
        for track, place, coins in ((U, 1, 5), (T, 0, 1), (BIG, 4, 7)):
            house = House(track, place, coins)
            right = idle(track, place)
            house.answer(right)
            here = house.place()
            right = idle(track, here)
            before = whole(house)
            wrongs = odd_things() + [
                (house.coins() + 1,) + right[1:], right + (0,), right[:-1], list(right), (False,) + right[1:],
                (-1,) + right[1:], ("0",) + right[1:], {0: 0}, 0, nested(36, right), (house.coins(),) * (len(right) + 1),
            ]
            self.raises_for(NoStake, house.answer, (0,), 0, wrongs)
            self.assertEqual(whole(house), before)

    def test_a_house_is_equal_to_nothing_else(self):
        house = House(U, 0, 5)
        self.assertTrue(house == house)
        for thing in odd_things() + [U, 5, (5, 0), house.caps()]:
            self.assertFalse(house == thing)


class Wrong(Exception):
    pass


class TryingTest(unittest.TestCase, Errors):
    def begun(self):
        house = House(U, 0, 20)
        house.answer((3, 4))
        house.answer(idle(U, house.place()))
        house.answer((1, 1))
        return house

    def test_copy_goes_on_apart(self):
        house = self.begun()
        told = whole(house)
        other = house.copy()
        self.assertIs(type(other), House)
        self.assertFalse(other == house)
        self.assertEqual(whole(other), told)
        other.answer((0, 1))
        self.assertEqual(whole(house), told)
        self.assertEqual(whole(other)[2:], told[1:])
        for _ in range(4):
            other.back()
        self.raises(NothingDone, other.back)
        self.assertEqual(state(other), (20, 0, "", 0))
        self.assertEqual(whole(house), told)
        house.back()
        self.assertEqual(whole(house)[1:], told[2:])

    def test_trying(self):
        house = self.begun()
        told = whole(house)
        self.assertEqual(house.trying(lambda same: (same.answer((0, 0)), same.depth())[1]), 4)
        self.assertEqual(whole(house), told)
        self.assertIs(house.trying(lambda same: same), house)
        self.assertIs(house.trying(lambda same: None), None)

        def to_the_begin(same):
            while same.depth():
                same.back()
            same.answer((20, 0))
            return same.text()

        self.assertIn(house.trying(to_the_begin), ("a", "b"))
        self.assertEqual(whole(house), told)

    def test_errors_go_on(self):
        house = self.begun()
        told = whole(house)

        def fails(kind):
            def action(same):
                same.back()
                same.back()
                same.answer((1, 1))
                raise kind()
            return action

        for kind in (Wrong, KeyError, NoStake, Grows, StopIteration, KeyboardInterrupt):
            with self.assertRaises(kind) as caught:
                house.trying(fails(kind))
            self.assertIs(type(caught.exception), kind)
            self.assertEqual(whole(house), told)
        self.raises(NoStake, house.trying, lambda same: same.answer((10 ** 39, 1)))
        self.assertEqual(whole(house), told)

    def test_a_trying_within_a_trying(self):
        house = self.begun()
        told = whole(house)

        def outer(same):
            same.answer((0, 0))
            before = whole(same)
            with self.assertRaises(Wrong):
                same.trying(inner)
            self.assertEqual(whole(same), before)
            same.back()
            same.back()
            return whole(same)[1:]

        def inner(same):
            same.back()
            same.back()
            same.back()
            same.answer((0, 0))
            raise Wrong

        self.assertEqual(house.trying(outer), told[2:])
        self.assertEqual(whole(house), told)


if __name__ == "__main__":
    unittest.main()
