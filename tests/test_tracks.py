import unittest

from tests.helper import LINE, ONE, T, TRACKS, U, Errors, large, no_places, odd_things, steps
from wholestakes.errors import BadTrack, NoLetter, NoPlace
from wholestakes.tracks import Track, arrow, letters, reached

LETTERS = "abcdefghijklmnopqrstuvwxyz"


def many_arrows(count, places):
    """So many arrows, ascending, at least one from each place."""
    found = []
    for place in range(places):
        most = count // places + (1 if place < count % places else 0)
        found += [(place, letter, 0, place) for letter in LETTERS[:most]]
    return tuple(found)


class TrackTest(unittest.TestCase, Errors):
    def bad(self, part, places, arrows):
        error = self.raises(BadTrack, Track, places, arrows)
        self.assertEqual(error.part, part, repr((places, arrows))[:200])

    def test_a_track_keeps_what_it_was_made_of(self):
        arrows = ((0, "a", 3, 0), (0, "b", 2, 1), (1, "z", 0, 0))
        track = Track(2, arrows)
        self.assertEqual((track.places, track.arrows), (2, arrows))
        self.assertIs(type(track.arrows), tuple)

    def test_the_sizes(self):
        for count in (1, 12):
            self.assertEqual(Track(count, many_arrows(count, count)).places, count)
        for count in (1, 60):
            self.assertEqual(len(Track(1 + count // 60 * 2, many_arrows(count, 1 + count // 60 * 2)).arrows), count)
        self.bad("places", 0, many_arrows(1, 1))
        self.bad("places", 13, many_arrows(13, 13))
        self.bad("arrows", 1, ())
        self.bad("arrows", 3, many_arrows(61, 3))

    def test_pays(self):
        for pay in (0, 1, 8, 9):
            self.assertEqual(arrow(Track(1, ((0, "a", pay, 0),)), 0, "a"), (pay, 0))
        for pay in [10, 10 ** 39] + odd_things():
            self.bad("arrows", 1, ((0, "a", pay, 0),))

    def test_places(self):
        for places in [13, 10 ** 39, "1"] + odd_things():
            self.bad("places", places, ((0, "a", 2, 0),))

    def test_arrows_that_are_none(self):
        right = (0, "a", 2, 0)
        for thing in odd_things():
            self.bad("arrows", 1, thing)
            self.bad("arrows", 1, (thing,))
            self.bad("arrows", 1, (thing, right))
            self.bad("arrows", 1, (right, thing))
            self.bad("arrows", 1, ((thing, "a", 2, 0), right))
            self.bad("arrows", 1, (right, (thing, "b", 2, 0)))
            self.bad("arrows", 1, (right, (0, "b", 2, thing)))
            if thing != "a":
                self.bad("arrows", 1, ((0, thing, 2, 0),))
        self.bad("arrows", 1, [right])
        self.bad("arrows", 1, ([0, "a", 2, 0],))
        self.bad("arrows", 1, ((0, "a", 2),))
        self.bad("arrows", 1, ((0, "a", 2, 0, 0),))
        self.bad("arrows", 1, ((1, "a", 2, 0), (0, "a", 2, 0)))
        self.bad("arrows", 1, (right, (0, "b", 2, 1)))
        self.bad("arrows", 1, (right, (1, "b", 2, 0)))

    def test_arrows_ascend_strictly(self):
        one, two, more = (0, "a", 2, 0), (0, "b", 2, 0), (1, "a", 2, 0)
        Track(2, (one, two, more))
        self.bad("arrows", 2, (two, one, more))
        self.bad("arrows", 2, (more, one, two))
        self.bad("arrows", 2, (one, one, more))
        self.bad("arrows", 2, (one, more, more))

    def test_twice_and_stuck(self):
        self.bad("twice", 1, ((0, "a", 2, 0), (0, "a", 3, 0)))
        self.bad("twice", 2, ((0, "a", 2, 0), (0, "a", 2, 1), (1, "a", 2, 0)))
        self.bad("stuck", 2, ((0, "a", 2, 1),))
        self.bad("stuck", 2, ((1, "a", 2, 1), (1, "b", 2, 0)))
        self.bad("stuck", 3, ((0, "a", 2, 1), (2, "b", 2, 1)))
        Track(2, ((0, "a", 2, 1), (1, "a", 2, 1)))

    def test_the_first_part_that_is_wrong_is_told(self):
        self.bad("places", 0, None)
        self.bad("places", True, ((0, "a", 2, 0), (0, "a", 3, 0)))
        self.bad("places", 13, ((0, "a", 2, 0), (0, "a", 3, 0)))
        self.bad("arrows", 2, ((0, "a", 3, 0), (0, "a", 2, 0)))
        self.bad("arrows", 3, ((0, "a", 2, 0), (0, "a", 3, 0), (0, "b", 10, 0)))
        self.bad("twice", 2, ((0, "a", 2, 0), (0, "a", 3, 0)))

    def test_equality(self):
        self.assertTrue(T == Track(2, tuple(list(T.arrows))))
        self.assertFalse(T != Track(2, T.arrows))
        self.assertFalse(T == U)
        self.assertFalse(Track(1, ((0, "a", 2, 0),)) == Track(1, ((0, "a", 3, 0),)))
        self.assertFalse(large() == ONE)
        self.assertTrue(large() == large())
        for thing in odd_things():
            if not isinstance(thing, Track):
                self.assertIs(T == thing, False)
                self.assertIs(thing == T, False)
                self.assertIs(T != thing, True)
        self.assertIs(T == (T.places, T.arrows), False)


class PlacesTest(unittest.TestCase, Errors):
    def test_the_example(self):
        self.assertEqual(letters(T, 1), "ab")
        self.assertEqual(arrow(T, 0, "b"), (2, 1))

    def test_every_place_of_some_tracks(self):
        for track in TRACKS + (large(),):
            for place in range(track.places):
                found = steps(track, place)
                self.assertEqual(letters(track, place), "".join(letter for letter, _, _ in found))
                for letter, pay, to in found:
                    self.assertEqual(arrow(track, place, letter), (pay, to))
                    self.assertIs(type(arrow(track, place, letter)), tuple)

    def test_reached(self):
        self.assertEqual([reached(LINE, place) for place in range(4)], [(0, 1, 2, 3), (1, 2, 3), (2, 3), (2, 3)])
        self.assertEqual(reached(Track(2, ((0, "a", 1, 1), (1, "a", 1, 1))), 0), (0, 1))
        for track in TRACKS + (large(),):
            for place in range(track.places):
                found = {place}
                for _ in range(track.places):
                    found |= {to for start, _, _, to in track.arrows if start in found}
                self.assertEqual(reached(track, place), tuple(sorted(found)))

    def test_no_place(self):
        for track in (T, ONE, large()):
            self.raises_for(NoPlace, letters, (track, 0), 1, no_places(track))
            self.raises_for(NoPlace, reached, (track, 0), 1, no_places(track))
            self.raises_for(NoPlace, arrow, (track, 0, "a"), 1, no_places(track))

    def test_no_letter(self):
        self.raises_for(NoLetter, arrow, (T, 0, "a"), 2, ["c", "ab", 0] + [x for x in odd_things() if x != "a"])
        self.raises(NoLetter, arrow, LINE, 0, "a")
        self.raises(NoPlace, arrow, T, 2, "c")
        self.raises(NoPlace, arrow, T, True, None)


if __name__ == "__main__":
    unittest.main()
