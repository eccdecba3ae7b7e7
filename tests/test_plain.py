import random
import unittest
from fractions import Fraction

from tests.helper import (
    GROWING, LINE, T, TRACKS, U, V, Errors, behind, chain, drawn, large, laid, no_places, odd_things, steps,
)
from wholestakes.errors import NoCoins, NoPlace, NotHopeful
from wholestakes.growing import least_coins
from wholestakes.lots import hopeful, ranks
from wholestakes.plain import plain_coins, plain_stake
from wholestakes.tracks import Track, reached

WIDE = tuple(drawn(seed, 12, "abcd") for seed in range(100, 160))
TALL = (chain(2, (2, 3)), chain(4, (2, 5)), chain(12, (3, 4)), chain(3, (2, 3, 7)), chain(1, (5, 6, 7, 7, 8, 9, 9)))
# Here what is laid last comes out even at some places, and what was lost counts.
EVEN = Track(1, ((0, "a", 3, 0), (0, "b", 3, 0), (0, "c", 6, 0)))


def wins(track, place):
    """For each letter whether it leads to a place with the same rank or a greater one."""
    ranking = ranks(track)
    return [ranking[to] >= ranking[place] for _, _, to in steps(track, place)]


def slow_stake(track, place, lost):
    """The stake with the fewest coins: as many are laid in all as are needed, again and again, from none on."""
    won = wins(track, place)
    coins = 0
    while True:
        least = [
            -(-(lost + coins + 1) // pay) if win else 0
            for win, (_, pay, _) in zip(won, steps(track, place))
        ]
        if sum(least) <= coins:
            return tuple(least)
        coins = sum(least)


def plays(track, place):
    """All (lost, laid) of the plain plan until it has won, begun with nothing lost at a place: by all ways."""
    ranking = ranks(track)
    found = []
    waiting = [(place, 0)]
    while waiting:
        here, lost = waiting.pop()
        stake = plain_stake(track, here, lost)
        found.append((lost, sum(stake)))
        for _, _, to in steps(track, here):
            if ranking[to] < ranking[here]:
                waiting.append((to, lost + sum(stake)))
    return found


class StakeTest(unittest.TestCase, Errors):
    def test_told_stakes(self):
        self.assertEqual(plain_stake(T, 0, 0), (2, 3))
        self.assertEqual(plain_stake(T, 1, 0), (1, 1))
        self.assertEqual([plain_stake(V, place, 0) for place in range(3)], [(1, 1), (0, 0), (1, 2)])
        self.assertEqual(plain_stake(EVEN, 0, 0), (2, 2, 1))
        self.assertEqual(plain_stake(EVEN, 0, 1), (4, 4, 2))
        self.assertEqual(plain_stake(LINE, 2, 0), (0,))

    def test_by_own_steps(self):
        for track in TRACKS + GROWING + TALL + WIDE[:20] + (EVEN,):
            for place in hopeful(track):
                for lost in (range(31) if track.places < 5 else (0, 1, 30)):
                    self.assertEqual(plain_stake(track, place, lost), slow_stake(track, place, lost))

    def test_all_stakes(self):
        for track in (T, V, EVEN) + GROWING:
            for place in hopeful(track):
                for lost in (0, 1, 2):
                    won = wins(track, place)
                    fit = [
                        stake
                        for stake in laid(len(won), 8)
                        if all(
                            pay * told > lost + sum(stake) if win else told == 0
                            for win, told, (_, pay, _) in zip(won, stake, steps(track, place))
                        )
                    ]
                    if fit:
                        self.assertEqual(sum(plain_stake(track, place, lost)), sum(fit[0]))
                        self.assertIn(plain_stake(track, place, lost), fit)
                    else:
                        self.assertGreater(sum(plain_stake(track, place, lost)), 8)

    def test_great_losses(self):
        for track in TRACKS + GROWING + TALL + WIDE:
            for place in hopeful(track):
                for lost in (10 ** 30, 10 ** 30 + 7, 10 ** 39):
                    stake = plain_stake(track, place, lost)
                    won = wins(track, place)
                    all_laid = sum(stake)
                    for win, told, (_, pay, _) in zip(won, stake, steps(track, place)):
                        self.assertEqual(told, -(-(lost + all_laid + 1) // pay) if win else 0)
                    # With some coins fewer it never is enough; how many fewer is told by parts of coins.
                    share = sum(Fraction(1, pay) for win, (_, pay, _) in zip(won, steps(track, place)) if win)
                    low = share * (lost + 1) / (1 - share)
                    self.assertTrue(low <= all_laid <= low + len(stake) / (1 - share))
                    for less in range(1, 50):
                        if all_laid >= less:
                            rest = [pay for win, (_, pay, _) in zip(won, steps(track, place)) if win]
                            self.assertGreater(
                                sum(-(-(lost + all_laid - less + 1) // pay) for pay in rest), all_laid - less)

    def test_each_rank(self):
        track = chain(12, (3, 4))
        self.assertEqual(ranks(track), tuple(range(1, 13)))
        for place in range(12):
            self.assertEqual(plain_stake(track, place, 3), slow_stake(track, place, 3))
            if place > 0:
                self.assertEqual(plain_stake(track, place, 3)[-1], 0)

    def test_errors_in_their_order(self):
        for track in (U, V, large()):
            self.raises_for(NoPlace, plain_stake, (track, 0, -1), 1, no_places(track))
            self.raises_for(NoPlace, plain_coins, (track, 0), 1, no_places(track))
            for place in range(track.places):
                if place not in hopeful(track):
                    self.raises(NotHopeful, plain_stake, track, place, -1)
                    self.raises(NotHopeful, plain_coins, track, place)
        self.raises(NotHopeful, plain_stake, U, 0, None)
        self.raises_for(NoCoins, plain_stake, (T, 0, 0), 2, odd_things())


class CoinsTest(unittest.TestCase):
    def test_all_ways(self):
        for track in TRACKS + GROWING + TALL[:2] + TALL[3:] + WIDE[:30] + (EVEN,):
            for place in hopeful(track):
                slow = max(sum(told) for start in reached(track, place) for told in plays(track, start))
                self.assertEqual(plain_coins(track, place), slow)

    def test_told_coins(self):
        self.assertEqual([plain_coins(T, place) for place in (0, 1)], [5, 5])
        self.assertEqual([plain_coins(V, place) for place in range(3)], [3, 3, 3])
        self.assertEqual(plain_coins(EVEN, 0), 5)

    def test_it_wins_within_the_rank_and_never_lays_more_than_it_has(self):
        draw = random.Random(1)
        for track in TRACKS + GROWING + TALL + WIDE[:20]:
            ranking = ranks(track)
            for start in hopeful(track):
                for _ in range(3):
                    place, coins, lost, since = start, plain_coins(track, start), 0, 0
                    begun = coins
                    rank = ranking[place]
                    for _ in range(30):
                        stake = plain_stake(track, place, lost)
                        self.assertLessEqual(sum(stake), coins)
                        at = draw.randrange(len(stake))
                        since += 1
                        to, coins = behind(track, place, coins, stake)[at]
                        if ranking[to] >= ranking[place]:
                            self.assertGreater(coins, begun)
                            self.assertLessEqual(since, rank)
                            begun, lost, since, rank = coins, 0, 0, ranking[to]
                        else:
                            lost += sum(stake)
                            self.assertLessEqual(begun - lost, coins)
                        place = to

    def test_it_is_never_less_than_the_least_coins(self):
        for track in TRACKS + GROWING + TALL[:2] + TALL[3:] + WIDE + (large(),):
            least = least_coins(track)
            for place in hopeful(track):
                self.assertGreaterEqual(plain_coins(track, place), least[place])

    def test_many_ranks(self):
        track = chain(12, (3, 4))
        self.assertEqual(plain_coins(track, 0), plain_coins(track, 11))
        self.assertGreater(plain_coins(track, 0), 10 ** 4)


if __name__ == "__main__":
    unittest.main()
