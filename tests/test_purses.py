import random
import unittest

from tests.helper import (
    DRAWN, GROWING, LINE, ONE, T, TRACKS, U, V, Errors, behind, chain, drawn, large, nested, no_places, odd_things, steps,
)
from wholestakes.errors import NoCoins, NoLetter, NoPlace, NoStake, NothingDone, NotHopeful, TooFew
from wholestakes.growing import least_coins
from wholestakes.lots import hopeful
from wholestakes.purses import Purse

BIG = large()
WIDE = tuple(drawn(seed, 12, "abcd") for seed in range(100, 110))


def state(purse):
    return purse.coins(), purse.place(), purse.text(), purse.laid(), purse.depth()


def whole(purse):
    """All that a purse tells, now and after each step back; a copy is gone back with."""
    other = purse.copy()
    found = [state(other)]
    while other.depth():
        other.back()
        found.append(state(other))
    return found


def idle(track, place):
    return (0,) * len(steps(track, place))


class Account:
    """An own account of a purse: a list of all states."""

    def __init__(self, track, place, coins):
        self.track = track
        self.states = [(coins, place, "", idle(track, place))]

    def lay(self, stake):
        coins, place, text, _ = self.states[-1]
        self.states.append((coins, place, text, stake))

    def come(self, letter):
        coins, place, text, stake = self.states[-1]
        number = [step[0] for step in steps(self.track, place)].index(letter)
        to, has = behind(self.track, place, coins, stake)[number]
        self.states.append((has, to, text + letter, idle(self.track, to)))
        return has

    def state(self):
        return *self.states[-1], len(self.states) - 1


def drawn_stake(draw, track, place, coins):
    stake = [0] * len(steps(track, place))
    for _ in range(draw.randint(0, min(coins, 8))):
        stake[draw.randrange(len(stake))] += 1
    return tuple(stake)


class DeedsTest(unittest.TestCase, Errors):
    def test_deeds_against_an_own_account(self):
        for seed, track in enumerate((ONE, T, U, V, LINE, BIG) + DRAWN[:20] + WIDE):
            draw = random.Random(seed)
            place = draw.randrange(track.places)
            purse, account = Purse(track, place, 9), Account(track, place, 9)
            for _ in range(60):
                self.assertEqual(state(purse), account.state())
                deed = draw.choice(("lay", "lay", "come", "come", "back"))
                coins, place, _, _ = account.states[-1]
                if deed == "lay":
                    stake = drawn_stake(draw, track, place, coins)
                    self.assertIs(purse.lay(stake), None)
                    account.lay(stake)
                elif deed == "come":
                    letter = draw.choice(steps(track, place))[0]
                    self.assertEqual(purse.come(letter), account.come(letter))
                elif len(account.states) > 1:
                    self.assertIs(purse.back(), None)
                    account.states.pop()
                else:
                    self.raises(NothingDone, purse.back)
            while len(account.states) > 1:
                self.assertEqual(state(purse), account.state())
                purse.back()
                account.states.pop()
            self.assertEqual(state(purse), account.state())
            self.raises(NothingDone, purse.back)
            self.assertEqual(state(purse), account.state())

    def test_told_deeds(self):
        purse = Purse(T, 0, 5)
        self.assertEqual(state(purse), (5, 0, "", (0, 0), 0))
        purse.lay((2, 3))
        # What is laid is still among the coins.
        self.assertEqual(state(purse), (5, 0, "", (2, 3), 1))
        purse.lay((1, 1))
        self.assertEqual(state(purse), (5, 0, "", (1, 1), 2))
        self.assertEqual(purse.come("a"), 6)
        self.assertEqual(state(purse), (6, 0, "a", (0, 0), 3))
        self.assertEqual(purse.come("b"), 6)
        self.assertEqual(state(purse), (6, 1, "ab", (0, 0), 4))
        purse.lay((6, 0))
        self.assertEqual(purse.come("b"), 0)
        self.assertEqual(purse.come("a"), 0)
        self.assertEqual(state(purse), (0, 0, "abba", (0, 0), 7))
        for _ in range(4):
            purse.back()
        self.assertEqual(state(purse), (6, 0, "a", (0, 0), 3))
        purse.back()
        self.assertEqual(state(purse), (5, 0, "", (1, 1), 2))
        purse.back()
        purse.back()
        self.assertEqual(state(purse), (5, 0, "", (0, 0), 0))

    def test_great_coins_and_many_deeds(self):
        purse = Purse(ONE, 0, 10 ** 39)
        for _ in range(300):
            purse.lay((purse.coins(), 0))
            purse.come("a")
        self.assertEqual(purse.coins(), 10 ** 39 * 2 ** 300)
        self.assertEqual((purse.depth(), purse.text()), (600, "a" * 300))
        for _ in range(600):
            purse.back()
        self.assertEqual(state(purse), (10 ** 39, 0, "", (0, 0), 0))

    def test_two_purses_go_apart(self):
        one, other = Purse(T, 0, 5), Purse(T, 0, 5)
        one.lay((1, 1))
        one.come("b")
        self.assertEqual(state(other), (5, 0, "", (0, 0), 0))

    def test_wrong_constructions(self):
        for track in (T, U, BIG):
            self.raises_for(NoPlace, Purse, (track, 0, -1), 1, no_places(track))
            self.raises_for(NoCoins, Purse, (track, 0, 0), 2, odd_things())

    def test_no_stake_and_no_letter(self):
        for track, place in ((T, 0), (LINE, 2), (V, 1)):
            purse = Purse(track, place, 5)
            right = idle(track, place)
            purse.lay((1,) + right[1:])
            before = state(purse)
            wrongs = odd_things() + [
                (6,) + right[1:], (5,) * (len(right) + 1), right + (0,), right[:-1], list(right), (True,) + right[1:],
                (-1,) + right[1:], ("1",) + right[1:], ((1,),) + right[1:], {0: 1}, 5, (3, 3), nested(36, right),
            ]
            self.raises_for(NoStake, purse.lay, (0,), 0, wrongs)
            letters = [thing for thing in odd_things() if thing != "a"] + ["c", "z", "aa", "B", 0, ("a",), b"a"]
            self.raises_for(NoLetter, purse.come, (0,), 0, letters)
            self.assertEqual(state(purse), before)
            self.assertEqual(purse.copy().depth(), 1)
        self.raises(NoLetter, Purse(LINE, 0, 1).come, "a")

    def test_a_purse_is_equal_to_nothing_else(self):
        purse = Purse(T, 0, 5)
        self.assertTrue(purse == purse)
        for thing in odd_things() + [T, 5, (5, 0), Account(T, 0, 5)]:
            self.assertFalse(purse == thing)
            self.assertTrue(purse != thing)


class GrowsTest(unittest.TestCase, Errors):
    def test_grows(self):
        for track in TRACKS + GROWING + WIDE + (BIG,):
            least = least_coins(track)
            for place in range(track.places)[-3:]:
                for coins in (0, 1, 2, 5, 10 ** 30) if least[place] is None else (least[place] - 1, least[place], 10 ** 39):
                    purse = Purse(track, place, coins)
                    right = least[place] is not None and coins >= least[place]
                    self.assertIs(purse.grows(), right)
                    # What is laid does not matter.
                    purse.lay((coins,) + idle(track, place)[1:])
                    self.assertIs(purse.grows(), right)

    def test_grows_behind_letters(self):
        purse = Purse(T, 0, 2)
        purse.lay((2, 0))
        self.assertIs(purse.grows(), True)
        purse.come("b")
        self.assertIs(purse.grows(), False)
        purse.back()
        self.assertIs(purse.grows(), True)

    def test_advice(self):
        for track in TRACKS + GROWING + WIDE + (BIG, chain(2, (2, 3, 7))):
            least = least_coins(track)
            for place in hopeful(track)[-3:]:
                for coins in (least[place], least[place] + 1, least[place] + 7, 10 ** 39):
                    purse = Purse(track, place, coins)
                    for laid in (None, (coins,) + idle(track, place)[1:]):
                        if laid is not None:
                            purse.lay(laid)
                        before = state(purse)
                        stake = purse.advice()
                        self.assertEqual((type(stake), len(stake)), (tuple, len(steps(track, place))))
                        self.assertTrue(all(type(told) is int and told >= 0 for told in stake) and sum(stake) <= coins)
                        for to, has in behind(track, place, coins, stake):
                            self.assertGreaterEqual(has, least[to])
                        self.assertEqual(state(purse), before)

    def test_going_by_advice(self):
        for track in (T, V, LINE) + GROWING:
            least = least_coins(track)
            for place in hopeful(track)[:2]:
                draw = random.Random(7)
                purse = Purse(track, place, least[place])
                while purse.coins() < least[place] + 10:
                    purse.lay(purse.advice())
                    has = behind(track, purse.place(), purse.coins(), purse.laid())
                    # The house names a letter with the fewest coins more than the least.
                    letters = [step[0] for step in steps(track, purse.place())]
                    fewest = min(coins - least[to] for to, coins in has)
                    fits = [letter for letter, (to, coins) in zip(letters, has) if coins - least[to] == fewest]
                    purse.come(draw.choice(fits))
                    self.assertIs(purse.grows(), True)
                    self.assertLess(len(purse.text()), 1000)

    def test_no_advice(self):
        for track in TRACKS + GROWING + (BIG,):
            least = least_coins(track)
            for place in range(track.places)[-3:]:
                if least[place] is None:
                    for coins in (0, 5, 10 ** 39):
                        self.raises(NotHopeful, Purse(track, place, coins).advice)
                else:
                    for coins in (0, least[place] - 1):
                        purse = Purse(track, place, coins)
                        before = state(purse)
                        self.assertEqual(self.raises(TooFew, purse.advice).least, least[place])
                        self.assertEqual(state(purse), before)


class Wrong(Exception):
    pass


class TryingTest(unittest.TestCase, Errors):
    def begun(self):
        purse = Purse(T, 0, 5)
        purse.lay((2, 3))
        purse.come("a")
        purse.lay((1, 2))
        return purse

    def test_copy_goes_on_apart(self):
        purse = self.begun()
        other = purse.copy()
        self.assertIs(type(other), Purse)
        self.assertIsNot(other, purse)
        self.assertFalse(other == purse)
        self.assertEqual(whole(other), whole(purse))
        told = whole(purse)
        other.come("b")
        other.lay((0, 1))
        self.assertEqual(whole(purse), told)
        for _ in range(4):
            other.back()
        self.assertEqual(state(other), (5, 0, "", (2, 3), 1))
        other.back()
        self.raises(NothingDone, other.back)
        self.assertEqual(whole(purse), told)
        purse.back()
        purse.back()
        self.assertEqual(state(purse), (5, 0, "", (2, 3), 1))
        again = Purse(U, 1, 3)
        self.assertEqual(whole(again.copy()), [(3, 1, "", (0, 0), 0)])

    def test_what_the_action_returned(self):
        purse = self.begun()
        told = whole(purse)
        self.assertEqual(purse.trying(lambda same: same.come("b")), 7)
        self.assertEqual(whole(purse), told)
        self.assertIs(purse.trying(lambda same: same.lay((0, 0))), None)
        self.assertIs(purse.trying(lambda same: same), purse)
        self.assertEqual(whole(purse), told)
        found = []
        self.assertIs(purse.trying(lambda same: found), found)

    def test_more_taken_back_than_done(self):
        purse = self.begun()
        told = whole(purse)

        def action(same):
            same.come("b")
            for _ in range(4):
                same.back()
            same.come("b")
            same.lay((5, 0))
            return same.depth()

        self.assertEqual(purse.trying(action), 2)
        self.assertEqual(whole(purse), told)

        def to_the_begin(same):
            while same.depth():
                same.back()
            return state(same)

        self.assertEqual(purse.trying(to_the_begin), (5, 0, "", (0, 0), 0))
        self.assertEqual(whole(purse), told)

    def test_errors_go_on(self):
        purse = self.begun()
        told = whole(purse)

        def fails(kind):
            def action(same):
                same.back()
                same.lay((0, 1))
                same.come("b")
                raise kind()
            return action

        for kind in (Wrong, KeyError, NoStake, NothingDone, StopIteration, ZeroDivisionError, KeyboardInterrupt):
            with self.assertRaises(kind) as caught:
                purse.trying(fails(kind))
            self.assertIs(type(caught.exception), kind)
            self.assertEqual(whole(purse), told)

        def wrong_letter(same):
            same.come("a")
            same.come("z")

        self.raises(NoLetter, purse.trying, wrong_letter)
        self.assertEqual(whole(purse), told)

    def test_a_trying_within_a_trying(self):
        purse = self.begun()
        told = whole(purse)

        def inner(same):
            same.back()
            same.back()
            same.lay((5, 0))
            raise Wrong

        def outer(same):
            same.come("b")
            before = whole(same)
            with self.assertRaises(Wrong):
                same.trying(inner)
            self.assertEqual(whole(same), before)
            self.assertEqual(same.trying(lambda purse: purse.come("b")), 7)
            self.assertEqual(whole(same), before)
            same.back()
            same.back()
            return whole(same)

        self.assertEqual(purse.trying(outer), told[1:])
        self.assertEqual(whole(purse), told)
        purse.back()
        self.assertEqual(whole(purse), told[1:])

    def test_a_copy_that_is_made_within_a_trying_stays(self):
        purse = self.begun()
        other = purse.trying(lambda same: (same.come("b"), same.copy())[1])
        self.assertEqual(state(other), (7, 1, "ab", (0, 0), 4))
        self.assertEqual(purse.depth(), 3)
        other.back()
        self.assertEqual(whole(other), whole(purse))


if __name__ == "__main__":
    unittest.main()
