import functools
import unittest

from tests.helper import DRAWN, LINE, ONE, T, TRACKS, U, V, Errors, large, no_places, odd_things, steps, walk, walks
from wholestakes.conditions import avoiding, by_turns, together
from wholestakes.errors import NoPlace, NoText
from wholestakes.rows import many_rows
from wholestakes.tracks import Track


def lasts(track, place, text):
    """Whether one can go on from a row for so many letters that one can for ever, the text not coming."""
    @functools.lru_cache(None)
    def goes(here, tail, left):
        if tail.endswith(text):
            return False
        tail = tail[-len(text):]
        return left == 0 or any(goes(to, tail + letter, left - 1) for letter, _, to in steps(track, here))
    return goes


def kept_rows(track, place, text, length):
    """The rows of a length, with pays, that can be gone on with for ever without the text."""
    goes = lasts(track, place, text)
    enough = track.places * 2 ** len(text) + 1
    found = []
    for row, pays, to in walks(track, place, length):
        if text not in row and goes(to, row[-len(text):], enough):
            found.append((row, pays))
    return found


def told_rows(track, length):
    return [(row, pays) for row, pays, _ in walks(track, 0, length)]


def shared_rows(one, place, other, goal, length):
    """The rows of a length, paying as in the one, that can be gone on with for ever from both."""
    @functools.lru_cache(None)
    def goes(here, there, left):
        others = {letter: to for letter, _, to in steps(other, there)}
        return left == 0 or any(
            goes(to, others[letter], left - 1) for letter, _, to in steps(one, here) if letter in others
        )
    found = []
    for row, pays, to in walks(one, place, length):
        there = walk(other, goal, row)
        if there is not None and goes(to, there[1], one.places * other.places + 1):
            found.append((row, pays))
    return found


class AvoidingTest(unittest.TestCase, Errors):
    def same(self, track, place, text):
        found = avoiding(track, place, text)
        if not kept_rows(track, place, text, 0):
            self.assertIs(found, None)
            return
        self.assertIs(type(found), Track)
        for length in range(5):
            self.assertEqual(told_rows(found, length), kept_rows(track, place, text, length))

    def test_by_own_steps(self):
        for track in (ONE, T, V, LINE) + DRAWN[:12]:
            for text in ("a", "b", "ab", "aa", "aba", "cc", "abab", "z"):
                for place in range(track.places):
                    self.same(track, place, text)

    def test_texts_that_come_over_themselves(self):
        one = Track(1, ((0, "a", 3, 0), (0, "b", 4, 0)))
        self.assertEqual([many_rows(avoiding(one, 0, "aa"), 0, n) for n in range(7)], [1, 2, 3, 5, 8, 13, 21])
        self.assertEqual([many_rows(avoiding(one, 0, "aba"), 0, n) for n in range(6)], [1, 2, 4, 7, 12, 21])
        self.assertEqual([many_rows(avoiding(one, 0, "abab"), 0, n) for n in range(6)], [1, 2, 4, 8, 15, 28])

    def test_texts_of_1_and_of_20_letters(self):
        one = Track(1, ((0, "a", 3, 0), (0, "b", 4, 0)))
        self.assertEqual(told_rows(avoiding(one, 0, "a"), 3), [("bbb", (4, 4, 4))])
        for text in ("a" * 20, "ab" * 10):
            counts = [many_rows(avoiding(one, 0, text), 0, n) for n in (19, 20, 21)]
            self.assertEqual(counts, [2 ** 19, 2 ** 20 - 1, 2 ** 21 - (3 if text[1] == "a" else 4)])

    def test_a_text_that_cannot_be_avoided(self):
        ring = Track(2, ((0, "a", 2, 1), (1, "b", 2, 0)))
        for text in ("a", "b", "ab", "ba", "ab" * 10):
            for place in (0, 1):
                self.assertIs(avoiding(ring, place, text), None)
        self.assertIs(avoiding(Track(1, ((0, "a", 2, 0),)), 0, "a" * 20), None)
        self.assertIs(avoiding(LINE, 0, "ba"), None)
        self.assertEqual(told_rows(avoiding(ring, 0, "aa"), 3), [("aba", (2, 2, 2))])

    def test_rows_that_cannot_be_gone_on_with_are_left_out(self):
        # Behind "a" nothing but "c" comes for ever.
        track = Track(2, ((0, "a", 2, 1), (0, "b", 3, 0), (1, "c", 2, 1)))
        self.assertEqual(told_rows(avoiding(track, 0, "cc"), 2), [("bb", (3, 3))])
        self.assertIs(avoiding(track, 1, "cc"), None)

    def test_large_tracks(self):
        track = large()
        for place in (0, 13, track.places - 1):
            found = avoiding(track, place, "ab")
            if found is not None:
                self.assertTrue(all("ab" not in row for row, _ in told_rows(found, 4)))
        self.assertGreater(avoiding(side_of_20(), 0, "b" * 20).places, 12)

    def test_errors_in_their_order(self):
        for track in (T, large()):
            self.raises_for(NoPlace, avoiding, (track, 0, ""), 1, no_places(track))
        right = ("a", "ab")
        wrong = [thing for thing in odd_things() if not isinstance(thing, str) or thing not in right]
        self.raises_for(NoText, avoiding, (T, 0, "a"), 2, wrong + ["a" * 21, "aB", "a-", ["a"], ("a",), "a" * 400])
        self.assertIsNot(avoiding(T, 0, "a" * 20), None)


def side_of_20():
    """A track that avoiding a text of 20 letters makes larger than callers may."""
    return Track(1, ((0, "a", 2, 0), (0, "b", 2, 0)))


class TogetherTest(unittest.TestCase, Errors):
    def test_by_own_steps(self):
        small = (ONE, T, V, LINE) + DRAWN[:9]
        for one in small:
            for other in small:
                for place in range(one.places):
                    goal = place % other.places
                    found = together(one, place, other, goal)
                    if not shared_rows(one, place, other, goal, 0):
                        self.assertIs(found, None)
                        continue
                    self.assertIs(type(found), Track)
                    for length in range(4):
                        self.assertEqual(told_rows(found, length), shared_rows(one, place, other, goal, length))

    def test_rows_in_common_and_none(self):
        self.assertEqual(told_rows(together(T, 0, U, 0), 2), told_rows(T, 2))
        self.assertEqual(told_rows(together(U, 0, T, 0), 2), told_rows(U, 2))
        ends = Track(2, ((0, "a", 2, 1), (0, "b", 2, 0), (1, "c", 2, 1)))
        self.assertEqual(told_rows(together(T, 0, ends, 0), 2), [("bb", (2, 3))])
        self.assertIs(together(T, 0, ends, 1), None)
        self.assertIs(together(ends, 1, T, 0), None)
        self.assertIs(together(Track(1, ((0, "a", 2, 0),)), 0, Track(2, ((0, "a", 2, 1), (1, "b", 2, 0))), 0), None)

    def test_large_tracks(self):
        track = large()
        self.assertEqual(told_rows(together(track, 0, V, 0), 4), told_rows(V, 4))
        self.assertEqual(told_rows(together(V, 0, track, 0), 4), told_rows(V, 4))

    def test_no_place_for_each(self):
        for function in (together, by_turns):
            self.raises_for(NoPlace, function, (V, 0, T, 0), 1, no_places(V))
            self.raises_for(NoPlace, function, (V, 0, T, 0), 3, no_places(T))
            self.raises(NoPlace, function, T, 2, V, 0)
            self.raises(NoPlace, function, V, 0, T, 2)


class ByTurnsTest(unittest.TestCase, Errors):
    def turns(self, one, place, other, goal, length):
        found = [("", (), place, goal)]
        for at in range(length):
            if at % 2 == 0:
                found = [(r + x, p + (y,), to, b) for r, p, a, b in found for x, y, to in steps(one, a)]
            else:
                found = [(r + x, p + (y,), a, to) for r, p, a, b in found for x, y, to in steps(other, b)]
        return sorted((row, pays) for row, pays, _, _ in found)

    def test_by_own_steps(self):
        small = (ONE, T, V, LINE) + DRAWN[:9]
        for one in small:
            for other in small:
                for place in range(one.places):
                    goal = place % other.places
                    found = by_turns(one, place, other, goal)
                    self.assertIs(type(found), Track)
                    for length in range(5):
                        self.assertEqual(told_rows(found, length), self.turns(one, place, other, goal, length))

    def test_the_first_letter_comes_from_the_one(self):
        one = Track(2, ((0, "a", 1, 1), (1, "b", 2, 0)))
        other = Track(2, ((0, "c", 3, 1), (1, "d", 4, 0)))
        self.assertEqual(told_rows(by_turns(one, 0, other, 0), 6), [("acbdac", (1, 3, 2, 4, 1, 3))])
        self.assertEqual(told_rows(by_turns(other, 1, one, 1), 4), [("dbca", (4, 2, 3, 1))])

    def test_large_tracks(self):
        track = large()
        found = by_turns(track, 12, T, 1)
        self.assertEqual(told_rows(found, 4), self.turns(track, 12, T, 1, 4))

    def test_tracks_stay_as_they_were(self):
        for track in TRACKS:
            before = (track.places, track.arrows)
            avoiding(track, 0, "ab")
            together(track, 0, U, 0)
            by_turns(U, 0, track, 0)
            self.assertEqual((track.places, track.arrows), before)


if __name__ == "__main__":
    unittest.main()
