import unittest

from tests.helper import LINE, T, TRACKS, V, Errors, large, no_numbers, no_places, odd_things, walks
from wholestakes.errors import NoCoins, NoNumber, NoPlace
from wholestakes.knowing import knowing_after, poorest_row, richest_row
from wholestakes.tracks import Track


def multiplied(pays):
    """By how much the coins are multiplied of who lays all on what pays more than one, and nothing else."""
    found = 1
    for pay in pays:
        if pay > 1:
            found *= pay
    return found


class KnowingTest(unittest.TestCase, Errors):
    def test_the_example(self):
        self.assertEqual(poorest_row(T, 0, 3), "bab")

    def test_against_all_rows(self):
        for track in TRACKS + (large(),):
            for place in range(0, track.places, 1 + track.places // 12):
                for length in range(5):
                    told = [(multiplied(pays), text) for text, pays, _ in walks(track, place, length)]
                    least, most = min(told)[0], max(told)[0]
                    self.assertEqual(poorest_row(track, place, length), min(told)[1])
                    self.assertEqual(richest_row(track, place, length), min(t for m, t in told if m == most))
                    for coins in (0, 1, 7):
                        self.assertEqual(knowing_after(track, place, coins, length), coins * least)

    def test_pays_of_0_and_1_leave_the_coins(self):
        track = Track(1, ((0, "a", 1, 0), (0, "b", 0, 0), (0, "c", 1, 0)))
        self.assertEqual(knowing_after(track, 0, 5, 9), 5)
        self.assertEqual((poorest_row(track, 0, 3), richest_row(track, 0, 3)), ("aaa", "aaa"))
        self.assertEqual(poorest_row(LINE, 0, 2), "db")
        self.assertEqual(richest_row(LINE, 0, 2), "ca")
        self.assertEqual((knowing_after(LINE, 0, 1, 2), poorest_row(LINE, 0, 3)), (1, "dba"))

    def test_ties_are_told_by_the_least_row(self):
        track = Track(1, ((0, "a", 4, 0), (0, "b", 2, 0), (0, "c", 2, 0), (0, "d", 4, 0)))
        self.assertEqual((poorest_row(track, 0, 3), richest_row(track, 0, 3)), ("bbb", "aaa"))
        # "ab" and "ba" multiply alike.
        crossed = Track(3, ((0, "a", 2, 1), (0, "b", 3, 2), (1, "b", 3, 1), (2, "a", 2, 2)))
        self.assertEqual((poorest_row(crossed, 0, 2), richest_row(crossed, 0, 2)), ("ab", "ab"))

    def test_the_lengths_0_and_200(self):
        self.assertEqual((knowing_after(V, 1, 3, 0), poorest_row(V, 1, 0), richest_row(V, 1, 0)), (3, "", ""))
        track = Track(2, ((0, "a", 9, 0), (0, "b", 2, 1), (1, "a", 2, 0), (1, "b", 3, 1)))
        self.assertEqual(knowing_after(track, 0, 10 ** 39, 200), 10 ** 39 * 2 ** 200)
        self.assertEqual(poorest_row(track, 0, 200), "ba" * 100)
        self.assertEqual(richest_row(track, 1, 200), "a" * 200)
        self.assertEqual(knowing_after(track, 0, knowing_after(track, 0, 1, 200), 200), 2 ** 400)

    def test_errors_in_their_order(self):
        for track in (T, large()):
            self.raises_for(NoPlace, knowing_after, (track, 0, -1, -1), 1, no_places(track))
            self.raises_for(NoPlace, poorest_row, (track, 0, -1), 1, no_places(track))
            self.raises_for(NoPlace, richest_row, (track, 0, 201), 1, no_places(track))
        self.raises_for(NoCoins, knowing_after, (T, 0, 0, 201), 2, odd_things() + ["1"])
        self.raises_for(NoNumber, knowing_after, (T, 0, 0, 0), 3, no_numbers(200))
        self.raises_for(NoNumber, poorest_row, (T, 0, 0), 2, no_numbers(200))
        self.raises_for(NoNumber, richest_row, (T, 0, 0), 2, no_numbers(200))


if __name__ == "__main__":
    unittest.main()
