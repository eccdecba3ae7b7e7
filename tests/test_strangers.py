import random
import unittest

from tests.helper import (
    BETTORS, DRAWN, GROWING, LINE, ONE, T, TRACKS, U, V, Errors, behind, chain, drawn, error_of, large, no_numbers,
    no_places, nothing, odd_things, steps, walk, walks, wrong_stakes,
)
from wholestakes.errors import (
    BadLetter, BadStake, Grows, NoCoins, NoNumber, NoPlace, NoRow, NotHopeful, NoTable, TooMany,
)
from wholestakes.growing import least_coins, table
from wholestakes.holding import caps
from wholestakes.lots import hopeful
from wholestakes.strangers import beaten, held, played, tabled, worst
from wholestakes.tracks import Track

BIG = large()
WIDE = tuple(drawn(seed, 12, "abcd") for seed in range(100, 112))
BRANCHING = Track(1, tuple((0, letter, 3, 0) for letter in "abcdefghijklmnopqrstuvwxyz"))
TWO = Track(1, ((0, "a", 3, 0), (0, "b", 1, 0)))


def account(track, place, coins, bettor, text):
    """The pairs (coins, place), by own account."""
    found = [(coins, place)]
    for at, letter in enumerate(text):
        stake = bettor(text[:at], coins)
        number = [told[0] for told in steps(track, place)].index(letter)
        place, coins = behind(track, place, coins, stake)[number]
        found.append((coins, place))
    return found


class PlayedTest(unittest.TestCase, Errors):
    def test_own_account(self):
        for track in TRACKS[:25] + (BIG,):
            for place in range(track.places)[-3:]:
                for text, _, _ in walks(track, place, 4)[::7]:
                    for kind in BETTORS:
                        for coins in (0, 1, 9, 10 ** 39):
                            bettor = kind(track, place)
                            found = played(track, place, coins, bettor, text)
                            self.assertEqual(found, account(track, place, coins, bettor, text))
                            self.assertIs(type(found), list)
                            self.assertTrue(all(type(told) is tuple for told in found))

    def test_told_plays(self):
        self.assertEqual(played(T, 0, 5, lambda text, coins: (2, 3), ""), [(5, 0)])
        self.assertEqual(played(T, 0, 5, lambda text, coins: (2, 3), "ab"), [(5, 0), (6, 0), (7, 1)])
        self.assertEqual(played(T, 0, 5, lambda text, coins: (0, coins), "baa"), [(5, 0), (10, 1), (0, 0), (0, 0)])

    def test_what_the_bettor_gets_and_that_it_is_not_needed_behind_the_last_letter(self):
        for text in ("", "a", "bab", "abba"):
            asked = []

            def bettor(told, coins):
                asked.append((told, coins))
                if told == text:
                    return "no stake"
                return (1, 1) if coins > 1 else (0, 0)

            found = played(T, 0, 6, bettor, text)
            self.assertEqual(set(asked) - {(text, found[-1][0])}, {(text[:at], found[at][0]) for at in range(len(text))})

    def test_bad_stakes(self):
        for bad in ("", "a", "ab", "abb"):
            place = walk(T, 0, bad)[1]
            for wrong in wrong_stakes(8, len(steps(T, place))):
                bettor = lambda text, coins: wrong if text == bad else (0, 0)
                self.assertEqual(self.raises(BadStake, played, T, 0, 8, bettor, "abba").row, bad)
        self.assertEqual(self.raises(BadStake, played, T, 0, 8, lambda text, coins: (0,), "abba").row, "")
        self.assertEqual(self.raises(BadStake, played, LINE, 0, 8, lambda text, coins: (0, 0), "ca").row, "c")
        self.assertEqual(played(T, 0, 8, lambda text, coins: (8, 0), "a"), [(8, 0), (24, 0)])
        self.assertEqual(self.raises(BadStake, played, T, 0, 8, lambda text, coins: (8, 1), "a").row, "")

    def test_errors_in_their_order(self):
        wrong = lambda text, coins: None
        for track in (T, U, BIG):
            self.raises_for(NoPlace, played, (track, 0, -1, wrong, "!"), 1, no_places(track))
            self.raises_for(NoCoins, played, (track, 0, 0, wrong, "!"), 2, odd_things())
        texts = [thing for thing in odd_things() if thing not in ("", "ab")]
        self.raises_for(NoRow, played, (T, 0, 0, wrong, ""), 4, texts + ["abc", "c", "abA", ("a",), ["a"], b"a", "ab "])
        self.raises(NoRow, played, LINE, 0, 0, wrong, "cb")
        self.raises(BadStake, played, T, 0, 0, wrong, "a")
        self.assertEqual(played(T, 0, 0, wrong, ""), [(0, 0)])


class WorstTest(unittest.TestCase, Errors):
    def test_all_rows(self):
        for track in TRACKS[:20] + (BIG,):
            for place in range(track.places)[-2:]:
                for kind in BETTORS:
                    bettor = kind(track, place)
                    for length in range(6):
                        found = worst(track, place, 7, bettor, length)
                        texts = [text for text, _, _ in walks(track, place, length)]
                        told = [(account(track, place, 7, bettor, text)[-1][0], text) for text in texts]
                        self.assertEqual(found, min(told))
                        self.assertIs(type(found), tuple)

    def test_told_rows(self):
        self.assertEqual(worst(T, 0, 5, lambda text, coins: (2, 3), 0), (5, ""))
        self.assertEqual(worst(T, 0, 5, lambda text, coins: (2, 3), 1), (6, "a"))
        self.assertEqual(worst(T, 0, 5, lambda text, coins: (coins, 0), 3), (0, "aab"))
        # Of the rows with as few coins the least one: not the one that has been poorest first.
        self.assertEqual(worst(TWO, 0, 1, lambda text, coins: (0, coins), 10), (0, "a" * 10))
        self.assertEqual(worst(TWO, 0, 1, lambda text, coins: (coins, 0) if text == "a" else (0, 0), 2), (0, "ab"))
        self.assertEqual(worst(LINE, 0, 3, lambda text, coins: (0,) * (2 - (len(text) > 0)), 2), (3, "ca"))

    def test_not_needed_behind_the_last_letter(self):
        for length in range(5):
            bettor = lambda text, coins: (0, 0) if len(text) < length else None
            self.assertEqual(worst(T, 0, 3, bettor, length), (3, "a" * length))

    def test_bad_stakes(self):
        wrong_for = lambda bad: lambda text, coins: [0, 0] if text in bad else (0, 0)
        for bad, row in ((("b", "aa"), "b"), (("ab", "ba", "aab"), "ab"), (("bb", "aaa"), "bb"), (("", "a"), ""),
                         (("bba", "aba"), "aba")):
            self.assertEqual(self.raises(BadStake, worst, T, 0, 8, wrong_for(bad), 4).row, row)
        self.assertEqual(worst(T, 0, 8, wrong_for(("aaaa", "b" * 4)), 4), (8, "aaaa"))
        for wrong in wrong_stakes(8, 2):
            self.assertEqual(self.raises(BadStake, worst, T, 0, 8, lambda text, coins: wrong, 1).row, "")
            self.assertEqual(worst(T, 0, 8, lambda text, coins: wrong, 0), (8, ""))

    def test_the_number_of_rows(self):
        idle = lambda text, coins: (0,) * 26
        self.assertEqual(worst(BRANCHING, 0, 1, idle, 2), (1, "aa"))
        self.assertEqual(self.raises(TooMany, worst, BRANCHING, 0, 1, lambda text, coins: None, 3).most, 2000)
        self.assertEqual(self.raises(TooMany, worst, T, 0, 1, lambda text, coins: None, 11).most, 2000)
        self.assertEqual(worst(T, 0, 1, lambda text, coins: (0, 0), 10), (1, "a" * 10))
        # 2000 rows are let, and 2001 are not.
        twenty = Track(3, tuple((0, "abcdefghijklmnopqrst"[at], 2, 1) for at in range(20))
                       + tuple((1, "abcdefghij"[at], 2, 2) for at in range(10))
                       + tuple((2, "abcdefghij"[at], 2, 2) for at in range(10)))
        self.assertEqual(len(walks(twenty, 0, 3)), 2000)
        self.assertEqual(worst(twenty, 0, 1, nothing(twenty, 0), 3), (1, "aaa"))
        more = Track(4, tuple((0, "abcdefghijklmnopqrstu"[at], 2, 1 if at < 20 else 3) for at in range(21))
                     + twenty.arrows[20:] + ((3, "a", 2, 3),))
        self.assertEqual(len(walks(more, 0, 3)), 2001)
        self.assertEqual(self.raises(TooMany, worst, more, 0, 1, nothing(more, 0), 3).most, 2000)

    def test_errors_in_their_order(self):
        wrong = lambda text, coins: None
        for track in (T, BIG):
            self.raises_for(NoPlace, worst, (track, 0, -1, wrong, -1), 1, no_places(track))
            self.raises_for(NoCoins, worst, (track, 0, 0, wrong, -1), 2, odd_things())
            self.raises_for(NoNumber, worst, (track, 0, 0, wrong, 0), 4, no_numbers(12))
        one = Track(1, ((0, "a", 2, 0),))
        self.assertEqual(worst(one, 0, 1, lambda text, coins: (coins,), 12), (4096, "a" * 12))


class HeldTest(unittest.TestCase, Errors):
    def test_the_coins_are_at_most_the_caps(self):
        for track in TRACKS + GROWING[:6] + WIDE + (BIG, chain(2, (2, 3, 7))):
            least = least_coins(track)
            for place in range(track.places)[-3:]:
                amounts = [0, 1, 30, 10 ** 30] if least[place] is None else [0, least[place] - 1]
                for coins in amounts:
                    bounds = caps(track, place, coins)
                    for kind in BETTORS:
                        bettor = kind(track, place)
                        for length in (0, 1, 12):
                            text = held(track, place, coins, bettor, length)
                            self.assertEqual((type(text), len(text)), (str, length))
                            for has, here in account(track, place, coins, bettor, text):
                                self.assertLessEqual(has, bounds[here])

    def test_a_hundred_letters(self):
        for track, place, coins in ((U, 0, 50), (U, 1, 7), (ONE, 0, 99), (T, 1, 1), (V, 1, 2), (BIG, 4, 10 ** 30)):
            bounds = caps(track, place, coins)
            for kind in BETTORS:
                bettor = kind(track, place)
                text = held(track, place, coins, bettor, 100)
                self.assertEqual(len(text), 100)
                for has, here in account(track, place, coins, bettor, text):
                    self.assertLessEqual(has, bounds[here])

    def test_grows_ahead_of_any_call(self):
        def never(text, coins):
            raise AssertionError

        for track in (T, V, LINE, BIG) + GROWING[:5] + DRAWN[:10]:
            least = least_coins(track)
            for place in hopeful(track):
                for coins in (least[place], least[place] + 1, 10 ** 39):
                    for length in (0, 5):
                        self.raises(Grows, held, track, place, coins, never, length)
                    self.raises(NoNumber, held, track, place, coins, never, -1)

    def test_bad_stakes(self):
        for wrong in wrong_stakes(8, 2):
            self.assertEqual(self.raises(BadStake, held, U, 1, 8, lambda text, coins: wrong, 3).row, "")
            self.assertEqual(held(U, 1, 8, lambda text, coins: wrong, 0), "")
            error = error_of(held, U, 1, 8, lambda text, coins: wrong if len(text) == 2 else (0, 0), 3)
            self.assertEqual((type(error), len(error.row)), (BadStake, 2))
            self.assertEqual(len(held(U, 1, 8, lambda text, coins: wrong if len(text) == 3 else (0, 0), 3)), 3)

    def test_errors_in_their_order(self):
        wrong = lambda text, coins: None
        for track in (T, U, BIG):
            self.raises_for(NoPlace, held, (track, 0, -1, wrong, -1), 1, no_places(track))
            self.raises_for(NoCoins, held, (track, 0, 0, wrong, -1), 2, odd_things())
            self.raises_for(NoNumber, held, (track, 0, 10 ** 39, wrong, 0), 4, no_numbers(100))


def meanest(track, place):
    """The house that names the letter with the fewest coins behind it."""
    def house(text, coins, stake):
        here = walk(track, place, text)[1]
        told = behind(track, here, coins, stake)
        return min((has, letter) for (_, has), (letter, _, _) in zip(told, steps(track, here)))[1]
    return house


def at_the_end(last):
    """A house that names the first or the last letter."""
    return lambda track, place: lambda text, coins, stake: steps(track, walk(track, place, text)[1])[-last][0]


def by_chance(track, place):
    def house(text, coins, stake):
        return random.Random(text).choice(steps(track, walk(track, place, text)[1]))[0]
    return house


HOUSES = (meanest, at_the_end(0), at_the_end(1), by_chance)


class BeatenTest(unittest.TestCase, Errors):
    def check(self, track, place, goal, kind):
        coins = least_coins(track)[place]
        house = kind(track, place)
        text = ""
        found = beaten(track, place, goal, house)
        self.assertIs(type(found), list)
        here = place
        for at, (stake, letter, has) in enumerate(found):
            self.assertLess(coins, goal)
            self.assertIs(type(stake), tuple)
            self.assertEqual(len(stake), len(steps(track, here)))
            self.assertTrue(all(type(laid) is int and laid >= 0 for laid in stake) and sum(stake) <= coins)
            self.assertEqual(letter, house(text, coins, stake))
            number = [told[0] for told in steps(track, here)].index(letter)
            here, coins = behind(track, here, coins, stake)[number]
            self.assertEqual(coins, has)
            self.assertIs(coins >= goal, at == len(found) - 1)
            text += letter
        self.assertGreaterEqual(coins, goal)
        return found

    def test_plays_against_houses(self):
        for track in TRACKS + GROWING + WIDE + (BIG,):
            for place in hopeful(track)[-3:]:
                for kind in HOUSES:
                    for goal in (0, 1, 2, 5, 30):
                        self.check(track, place, goal, kind)

    def test_great_goals(self):
        for track in TRACKS + GROWING + WIDE[:4] + (chain(2, (2, 3)), chain(2, (2, 3, 7))):
            for place in hopeful(track)[:2]:
                for kind in HOUSES[:2]:
                    for goal in (731, 2000):
                        self.check(track, place, goal, kind)

    def test_no_letter_for_a_goal_of_at_most_the_least_coins(self):
        def never(text, coins, stake):
            raise AssertionError

        for track in (T, V, LINE, BIG, chain(2, (2, 3, 7))) + GROWING:
            for place in hopeful(track):
                least = least_coins(track)[place]
                for goal in {0, 1, least - 1, min(least, 2000)}:
                    if goal <= 2000:
                        self.assertEqual(beaten(track, place, goal, never), [])

    def test_what_the_house_gets(self):
        asked = []

        def house(text, coins, stake):
            asked.append((text, coins, stake))
            return "b"

        found = beaten(T, 0, 40, house)
        told = [("b" * at, ([2] + [has for _, _, has in found])[at], found[at][0]) for at in range(len(found))]
        self.assertEqual(asked, told)

    def test_bad_letters(self):
        wrongs = odd_things() + ["c", "ab", "", "A", 0, ("a",), b"a"]
        for wrong in wrongs:
            self.assertEqual(self.raises(BadLetter, beaten, T, 0, 100, lambda text, coins, stake: wrong).row, "")
            house = lambda text, coins, stake: wrong if len(text) == 2 else "b"
            self.assertEqual(self.raises(BadLetter, beaten, T, 0, 100, house).row, "bb")
        # A letter of the track, but not of the place.
        self.assertEqual(self.raises(BadLetter, beaten, LINE, 0, 100, lambda text, coins, stake: "a").row, "")
        self.assertEqual(self.raises(BadLetter, beaten, LINE, 0, 100, lambda text, coins, stake: "c").row, "c")

    def test_errors_in_their_order(self):
        wrong = lambda text, coins, stake: None
        for track in (T, U, BIG):
            self.raises_for(NoPlace, beaten, (track, 0, -1, wrong), 1, no_places(track))
        for place in (0, 1):
            for goal in (-1, 0, 2001):
                self.raises(NotHopeful, beaten, U, place, goal, wrong)
        self.raises_for(NoCoins, beaten, (T, 0, 0, wrong), 2, odd_things())
        for goal in (2001, 10 ** 39):
            self.assertEqual(self.raises(TooMany, beaten, T, 0, goal, wrong).most, 2000)
        self.raises(BadLetter, beaten, T, 0, 2000, wrong)


def tabled_account(track, place, told, coins, text):
    """The pairs of a bettor by a table, by own account: what is above the triple is kept aside."""
    found = [(coins, place)]
    for letter in text:
        least, _, stake = told[place]
        aside = coins - least
        number = [step[0] for step in steps(track, place)].index(letter)
        place, coins = behind(track, place, least, stake)[number]
        coins += aside
        found.append((coins, place))
    return found


class TabledTest(unittest.TestCase, Errors):
    def test_the_least_coins_and_more(self):
        for track in TRACKS[:30] + GROWING + WIDE[:5] + (BIG,):
            told = table(track)
            for place in hopeful(track)[-3:]:
                for more in (0, 1, 40, 10 ** 30):
                    coins = told[place][0] + more
                    for length in (0, 1, 4):
                        for text, _, _ in walks(track, place, length)[::5]:
                            found = tabled(track, place, told, coins, text)
                            self.assertEqual(found, tabled_account(track, place, told, coins, text))
                            self.assertIs(type(found), list)
                            # It never has fewer than the triple tells where it is.
                            self.assertTrue(all(has >= told[here][0] for has, here in found))

    def test_other_tables(self):
        more = ((5, 2, (2, 2)), (4, 7, (1, 2)))
        self.assertEqual(tabled(T, 0, more, 5, "aba"), [(5, 0), (7, 0), (7, 1), (8, 0)])
        self.assertEqual(tabled(T, 1, more, 9, "bb"), [(9, 1), (12, 1), (15, 1)])
        # A part of the triples can be left out.
        part = (None, None, (1, 1, (1,)), (1, 0, (1,)))
        self.assertEqual(tabled(LINE, 3, part, 3, "ab"), [(3, 3), (9, 2), (9, 3)])
        for place in (0, 1):
            self.raises(NoPlace, tabled, LINE, place, part, 10, "")

    def test_errors_in_their_order(self):
        told = table(T)
        for wrong in odd_things() + [list(told), told[:1], ((1, 2, (1, 1)), told[1]), (told[0], None), ((2, 2, [1, 1]), told[1])]:
            self.raises(NoTable, tabled, T, -1, wrong, -1, "!")
            self.raises(NoTable, tabled, T, 0, wrong, 10, "a")
        self.raises_for(NoPlace, tabled, (T, 0, told, -1, "!"), 1, no_places(T))
        self.raises_for(NoPlace, tabled, (T, 0, (None, None), 10, ""), 1, [0, 1] + no_places(T))
        self.raises_for(NoCoins, tabled, (T, 0, told, 2, "!"), 3, odd_things() + [0, 1])
        texts = [thing for thing in odd_things() if thing not in ("", "ab")]
        self.raises_for(NoRow, tabled, (T, 0, told, 2, ""), 4, texts + ["abc", "c", ("a",), ["a"], "ab "])
        self.raises_for(NoPlace, tabled, (BIG, 0, table(BIG), -1, "!"), 1, no_places(BIG))


if __name__ == "__main__":
    unittest.main()
