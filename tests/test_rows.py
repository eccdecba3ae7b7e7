import unittest

from tests.helper import (
    DRAWN, LINE, ONE, T, TRACKS, U, V, Errors, large, no_numbers, no_places, odd_things, texts, walk, walks,
)
from wholestakes.errors import NoNumber, NoPlace, NoRow, TooLong, TooMany
from wholestakes.rows import is_row, led, many_rows, round_row, row_at, row_number, rows
from wholestakes.tracks import Track

# A single row of each length, "cdcd..".
SINGLE = Track(2, ((0, "c", 2, 1), (1, "d", 2, 0)))


class RowsTest(unittest.TestCase, Errors):
    def test_the_example(self):
        self.assertEqual(led(T, 0, "bab"), 1)

    def test_is_row_and_led_by_own_steps(self):
        for track in (T, V, LINE, SINGLE) + DRAWN[:15]:
            for place in range(track.places):
                for text in texts("abcd", 4):
                    found = walk(track, place, text)
                    self.assertIs(is_row(track, place, text), found is not None)
                    if found is None:
                        self.raises(NoRow, led, track, place, text)
                    else:
                        self.assertEqual(led(track, place, text), found[1])

    def test_the_empty_row_and_a_long_one(self):
        for place in range(3):
            self.assertIs(is_row(V, place, ""), True)
            self.assertEqual(led(V, place, ""), place)
        self.assertEqual(led(SINGLE, 0, "cd" * 150), 0)
        self.assertEqual(led(SINGLE, 1, "dc" * 199 + "d"), 0)
        for at in (0, 150, 299):
            text = "cd" * 150
            wrong = text[:at] + ("a" if text[at] == "c" else "c") + text[at + 1:]
            self.assertIs(is_row(SINGLE, 0, wrong), False)
            self.raises(NoRow, led, SINGLE, 0, wrong)

    def test_things_that_are_no_row(self):
        for thing in odd_things() + [0, ["a"], ("a",), "a ", "aB", b"ab", "a\n", "c", "abc"]:
            if not isinstance(thing, str) or thing not in ("", "a", "ab"):
                self.assertIs(is_row(T, 0, thing), False)
                self.raises(NoRow, led, T, 0, thing)
                self.raises(NoRow, row_number, T, 0, thing)

    def test_rows_against_one_another(self):
        for track in TRACKS:
            for place in range(track.places):
                for length in range(4):
                    told = [text for text, _, _ in walks(track, place, length)]
                    self.assertEqual(rows(track, place, length), told)
                    self.assertEqual(many_rows(track, place, length), len(told))
                    self.assertEqual([row_at(track, place, length, at) for at in range(len(told))], told)
                    self.assertEqual([row_number(track, place, text) for text in told], list(range(len(told))))
                    self.raises(NoNumber, row_at, track, place, length, len(told))

    def test_the_length_0(self):
        self.assertEqual((many_rows(T, 1, 0), rows(T, 1, 0), row_at(T, 1, 0, 0), row_number(T, 1, "")), (1, [""], "", 0))
        self.raises(NoNumber, row_at, T, 1, 0, 1)

    def test_the_length_200(self):
        self.assertEqual(many_rows(T, 0, 200), 2 ** 200)
        self.assertEqual(rows(SINGLE, 0, 200), ["cd" * 100])
        self.assertEqual(row_at(T, 0, 200, 0), "a" * 200)
        self.assertEqual(row_at(T, 0, 200, 2 ** 200 - 1), "b" * 200)
        self.assertEqual(row_at(T, 0, 200, 5), "a" * 197 + "bab")
        self.assertEqual(row_number(T, 1, "b" + "a" * 198 + "b"), 2 ** 199 + 1)
        number = 3 ** 120
        self.assertEqual(row_number(V, 2, row_at(V, 2, 200, number)), number)

    def test_lengths_that_are_none(self):
        for function in (many_rows, rows):
            self.raises_for(NoNumber, function, (SINGLE, 0, 0), 2, no_numbers(200))
        self.raises_for(NoNumber, row_at, (SINGLE, 0, 0, 0), 2, no_numbers(200))
        self.raises_for(NoNumber, row_at, (SINGLE, 0, 3, 0), 3, no_numbers(0))
        self.raises(NoNumber, row_at, T, 0, 1, True)

    def test_at_most_2000_rows(self):
        for count in (1999, 2000, 2001):
            track = sum_track(count)
            self.assertEqual(many_rows(track, 0, 11), count)
            if count > 2000:
                self.assertEqual(self.raises(TooMany, rows, track, 0, 11).most, 2000)
            else:
                self.assertEqual(len(rows(track, 0, 11)), count)
        self.assertEqual(len(rows(T, 0, 10)), 1024)
        self.raises(TooMany, rows, T, 0, 11)
        self.raises(TooMany, rows, T, 0, 200)
        self.assertEqual(row_at(T, 0, 11, 2047), "b" * 11)

    def test_too_long_rows(self):
        self.assertEqual(row_number(SINGLE, 0, "cd" * 100), 0)
        self.assertEqual(self.raises(TooLong, row_number, SINGLE, 0, "cd" * 100 + "c").most, 200)
        self.assertEqual(self.raises(TooLong, row_number, T, 0, "a" * 400).most, 200)
        self.raises(NoRow, row_number, SINGLE, 0, "cd" * 100 + "d")
        self.raises(NoRow, row_number, T, 0, "A" * 400)

    def test_no_place_and_the_order_of_errors(self):
        for track in (T, ONE, large()):
            self.raises_for(NoPlace, is_row, (track, 0, "a"), 1, no_places(track))
            self.raises_for(NoPlace, led, (track, 0, "A"), 1, no_places(track))
            self.raises_for(NoPlace, many_rows, (track, 0, -1), 1, no_places(track))
            self.raises_for(NoPlace, rows, (track, 0, 201), 1, no_places(track))
            self.raises_for(NoPlace, row_at, (track, 0, None, None), 1, no_places(track))
            self.raises_for(NoPlace, row_number, (track, 0, None), 1, no_places(track))
            self.raises_for(NoPlace, round_row, (track, 0), 1, no_places(track))
        self.raises(NoNumber, rows, T, 0, 201)

    def test_lists_are_new(self):
        found = rows(T, 0, 2)
        found.append("x")
        found[0] = None
        self.assertEqual(rows(T, 0, 2), ["aa", "ab", "ba", "bb"])

    def test_round_rows(self):
        self.assertEqual([round_row(LINE, place) for place in range(4)], [None, None, "ba", "ab"])
        self.assertEqual((round_row(T, 0), round_row(T, 1), round_row(SINGLE, 0)), ("a", "b", "cd"))
        self.assertEqual([round_row(V, place) for place in range(3)], ["b", "aa", "a"])
        for track in TRACKS:
            for place in range(track.places):
                back = [
                    text
                    for length in range(1, track.places + 1)
                    for text, _, to in walks(track, place, length)
                    if to == place
                ]
                self.assertEqual(round_row(track, place), back[0] if back else None)

    def test_large_tracks(self):
        track = large()
        for place in (0, 12, track.places - 1):
            told = [text for text, _, _ in walks(track, place, 3)]
            self.assertEqual(rows(track, place, 3), told)
            self.assertEqual([row_number(track, place, text) for text in told], list(range(len(told))))
            self.assertEqual([row_at(track, place, 3, at) for at in range(len(told))], told)
            self.assertIs(is_row(track, place, told[-1]), True)
        self.assertIs(round_row(track, track.places - 1), None)
        self.assertEqual(led(U, 1, "a"), 0)


def sum_track(count):
    """A track with just so many rows of 11 letters from place 0 on, for counts from 1025 to 2047."""
    # Place k + 1 has 2 ** k rows of each length from k on, place 1 one row of each length.
    arrows = [(1, "a", 2, 1)]
    for k in range(1, 11):
        arrows += [(k + 1, "a", 2, k), (k + 1, "b", 2, k)]
    letters = "abcdefghijk"
    arrows += [(0, letters[k], 2, k + 1) for k in range(11) if count >> k & 1]
    return Track(12, tuple(sorted(arrows)))


if __name__ == "__main__":
    unittest.main()
