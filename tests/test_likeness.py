import unittest

from tests.helper import DRAWN, LINE, ONE, T, TRACKS, U, V, Errors, large, no_places, texts, walk
from wholestakes.errors import NoPlace
from wholestakes.likeness import are_like, shrunk, unlike_row
from wholestakes.making import side, twin
from wholestakes.tracks import Track


def telling(one, place, other, goal, abc="abcd"):
    """The least of the shortest texts that tell two places of small tracks apart, by trying all."""
    for text in texts(abc, one.places + other.places):
        here, there = walk(one, place, text), walk(other, goal, text)
        if (here is None) != (there is None):
            return text
        if here is not None and text and here[0][-1] != there[0][-1]:
            return text
    return None


# The places 1 and 3 are like, and so are 2 and 4.
DOUBLED = Track(5, (
    (0, "a", 2, 3), (0, "b", 2, 1), (1, "a", 3, 2), (2, "a", 2, 1), (2, "b", 0, 0), (3, "a", 3, 4), (4, "a", 2, 3),
    (4, "b", 0, 0),
))


class LikenessTest(unittest.TestCase, Errors):
    def test_against_all_texts(self):
        small = [track for track in TRACKS if track.places <= 2]
        for one in small:
            for other in small:
                for place in range(one.places):
                    for goal in range(other.places):
                        told = telling(one, place, other, goal)
                        self.assertEqual(unlike_row(one, place, other, goal), told)
                        self.assertIs(are_like(one, place, other, goal), told is None)

    def test_places_of_one_track(self):
        for track in (T, U, V, LINE, DOUBLED, twin(T, 1)) + DRAWN[:10]:
            for place in range(track.places):
                for goal in range(place + 1):
                    told = telling(track, place, track, goal, "abc") if track.places <= 3 else None
                    if track.places <= 3:
                        self.assertEqual(unlike_row(track, place, track, goal), told)
                self.assertIs(are_like(track, place, track, place), True)
        self.assertIs(are_like(DOUBLED, 1, DOUBLED, 3), True)
        self.assertIs(are_like(DOUBLED, 2, DOUBLED, 4), True)
        self.assertIs(are_like(DOUBLED, 1, DOUBLED, 2), False)

    def test_a_text_that_is_a_row_of_just_one(self):
        less = Track(1, ((0, "b", 2, 0),))
        more = Track(1, ((0, "b", 2, 0), (0, "c", 2, 0)))
        self.assertEqual((unlike_row(less, 0, more, 0), unlike_row(more, 0, less, 0)), ("c", "c"))
        self.assertEqual(unlike_row(ONE, 0, less, 0), "a")
        self.assertEqual(unlike_row(DOUBLED, 0, DOUBLED, 1), "a")
        self.assertEqual(unlike_row(DOUBLED, 1, DOUBLED, 2), "a")

    def test_only_the_last_pay_is_otherwise(self):
        def chain(pay):
            return Track(3, ((0, "a", 2, 1), (0, "b", 2, 1), (1, "a", 2, 2), (1, "b", 2, 2), (2, "a", 2, 2), (2, "b", pay, 2)))
        self.assertEqual(unlike_row(chain(3), 0, chain(4), 0), "aab")
        self.assertEqual(unlike_row(chain(3), 1, chain(4), 1), "ab")
        self.assertEqual(unlike_row(chain(3), 2, chain(4), 2), "b")
        self.assertIs(unlike_row(chain(3), 0, chain(3), 0), None)
        self.assertEqual(unlike_row(T, 0, T, 1), "a")
        self.assertEqual(unlike_row(T, 0, U, 0), "bb")

    def test_the_least_of_the_shortest(self):
        # "ba" and "ab" both tell them apart; "c" would only later.
        one = Track(3, ((0, "a", 2, 1), (0, "b", 2, 2), (1, "b", 2, 1), (2, "a", 2, 2)))
        other = Track(3, ((0, "a", 2, 1), (0, "b", 2, 2), (1, "b", 3, 1), (2, "a", 3, 2)))
        self.assertEqual(unlike_row(one, 0, other, 0), "ab")
        other = Track(3, ((0, "a", 2, 1), (0, "b", 2, 2), (1, "b", 2, 1), (2, "a", 3, 2)))
        self.assertEqual(unlike_row(one, 0, other, 0), "ba")

    def test_shrunk(self):
        self.assertEqual(shrunk(DOUBLED), Track(3, (
            (0, "a", 2, 1), (0, "b", 2, 1), (1, "a", 3, 2), (2, "a", 2, 1), (2, "b", 0, 0),
        )))
        self.assertEqual(shrunk(T), T)
        self.assertEqual(shrunk(LINE), LINE)
        self.assertEqual(shrunk(twin(V, 1)), V)
        self.assertEqual(shrunk(side(U, U)), U)
        ring = Track(3, ((0, "a", 2, 1), (1, "a", 2, 2), (2, "a", 2, 0)))
        self.assertEqual(shrunk(ring), Track(1, ((0, "a", 2, 0),)))

    def test_shrunk_by_the_words(self):
        for track in TRACKS + (DOUBLED, large(), side(T, side(U, T)), twin(twin(V, 0), 3)):
            found = shrunk(track)
            firsts = []
            for place in range(track.places):
                if not any(are_like(track, place, track, first) for first in firsts):
                    firsts.append(place)
            self.assertEqual(found.places, len(firsts))
            for number, first in enumerate(firsts):
                self.assertIs(are_like(track, first, found, number), True)
            self.assertEqual(shrunk(found), found)
            self.assertIs(type(found), Track)

    def test_large_tracks(self):
        track = large()
        last = track.places - 1
        self.assertIs(are_like(track, last, track, last - 1), True)
        self.assertIs(are_like(track, 0, V, 0), True)
        self.assertEqual(unlike_row(track, 0, V, 1), unlike_row(V, 0, V, 1))

    def test_no_place_for_each(self):
        for function in (are_like, unlike_row):
            self.raises_for(NoPlace, function, (V, 0, T, 0), 1, no_places(V))
            self.raises_for(NoPlace, function, (V, 0, T, 0), 3, no_places(T))
            self.raises(NoPlace, function, T, 2, V, 0)
            self.raises(NoPlace, function, V, 0, T, 2)
            self.raises(NoPlace, function, V, None, T, None)
            self.assertIsNot(unlike_row(V, 2, T, 1), False)


if __name__ == "__main__":
    unittest.main()
