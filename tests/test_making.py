import unittest

from tests.helper import LINE, ONE, T, TRACKS, U, V, Errors, large, no_places, odd_things, steps
from wholestakes.errors import BadTrack, NoLetter, NoNames, NoPay, NoPlace
from wholestakes.making import paid, part, renamed, side, twin
from wholestakes.tracks import Track, reached


def plain(track):
    return track.places, track.arrows


class MakingTest(unittest.TestCase, Errors):
    def right(self, track):
        """What a track must be, whatever its size."""
        self.assertIs(type(track), Track)
        self.assertIs(type(track.places), int)
        self.assertIs(type(track.arrows), tuple)
        self.assertEqual(track.arrows, tuple(sorted(set(track.arrows))))
        self.assertEqual({found[0] for found in track.arrows}, set(range(track.places)))
        self.assertEqual(len({found[:2] for found in track.arrows}), len(track.arrows))
        for start, letter, pay, to in track.arrows:
            self.assertTrue(0 <= to < track.places and 0 <= pay <= 9 and len(letter) == 1)

    def test_part(self):
        self.assertEqual(plain(part(LINE, 2)), (2, ((0, "b", 1, 1), (1, "a", 7, 0))))
        self.assertEqual(plain(part(LINE, 1)), (3, ((0, "a", 9, 1), (1, "b", 1, 2), (2, "a", 7, 1))))
        self.assertEqual(part(LINE, 3), part(LINE, 2))
        self.assertEqual(part(LINE, 0), LINE)
        for track in TRACKS + (large(),):
            for place in range(track.places):
                found = part(track, place)
                self.right(found)
                kept = reached(track, place)
                self.assertEqual(found.places, len(kept))
                for new, old in enumerate(kept):
                    told = [(letter, pay, kept[to]) for letter, pay, to in steps(found, new)]
                    self.assertEqual(told, steps(track, old))

    def test_side(self):
        self.assertEqual(plain(side(ONE, U)), (3, (
            (0, "a", 2, 0), (0, "b", 2, 0), (1, "a", 3, 1), (1, "b", 2, 2), (2, "a", 4, 1), (2, "b", 0, 2),
        )))
        for one in TRACKS[:12] + (large(),):
            for other in TRACKS[:12] + (large(),):
                found = side(one, other)
                self.right(found)
                self.assertEqual(found.places, one.places + other.places)
                self.assertEqual(len(found.arrows), len(one.arrows) + len(other.arrows))
                for place in range(one.places):
                    self.assertEqual(steps(found, place), steps(one, place))
                for place in range(other.places):
                    moved = [(letter, pay, to - one.places) for letter, pay, to in steps(found, one.places + place)]
                    self.assertEqual(moved, steps(other, place))

    def test_renamed(self):
        self.assertEqual(renamed(T, {"a": "b", "b": "a"}).arrows, (
            (0, "a", 2, 1), (0, "b", 3, 0), (1, "a", 3, 1), (1, "b", 4, 0),
        ))
        self.assertEqual(renamed(V, {"a": "z", "b": "b"}).arrows[0], (0, "b", 3, 0))
        for track in TRACKS + (large(),):
            used = sorted({found[1] for found in track.arrows})
            names = dict(zip(used, "zyxw"))
            before = dict(names)
            found = renamed(track, names)
            self.right(found)
            self.assertEqual(names, before)
            self.assertEqual(found.places, track.places)
            back = {name: letter for letter, name in names.items()}
            self.assertEqual(renamed(found, back), track)
            self.assertEqual(renamed(track, {letter: letter for letter in used}), track)

    def test_names_that_are_none(self):
        wrong = [
            {}, {"a": "b"}, {"b": "a"}, {"a": "x", "b": "y", "c": "z"}, {"a": "x", "b": "x"}, {"a": "a", "c": "c"},
            {"a": "x", "b": "Y"}, {"a": "x", "b": ""}, {"a": "x", "b": "yz"}, {"a": "x", "b": b"y"},
            {"a": "x", 1: "y"}, {"a": "x", b"b": "y"}, {"a": "x", ("b",): "y"}, {"a": "x", None: "y"},
            [("a", "x"), ("b", "y")], (("a", "x"), ("b", "y")), ["x", "y"], "xy", ["a", "b"],
        ]
        for names in wrong + odd_things():
            self.raises(NoNames, renamed, T, names)
        for thing in odd_things():
            if thing != "a":
                self.raises(NoNames, renamed, T, {"a": thing, "b": "c"})
                self.raises(NoNames, renamed, T, {"a": thing, "b": thing})
        self.raises(NoNames, renamed, ONE, {"a": "a", "b": "a"})

    def test_paid(self):
        self.assertEqual(paid(T, 1, "a", 0).arrows, ((0, "a", 3, 0), (0, "b", 2, 1), (1, "a", 0, 0), (1, "b", 3, 1)))
        for track in TRACKS[:15] + (large(),):
            for start, letter, pay, to in track.arrows:
                for more in (0, 5, 9):
                    found = paid(track, start, letter, more)
                    self.right(found)
                    told = tuple(
                        (s, x, more, g) if (s, x) == (start, letter) else (s, x, p, g) for s, x, p, g in track.arrows
                    )
                    self.assertEqual(plain(found), (track.places, told))
                self.assertEqual(paid(track, start, letter, pay), track)

    def test_twin(self):
        self.assertEqual(plain(twin(U, 1)), (3, U.arrows + ((2, "a", 4, 0), (2, "b", 0, 1))))
        for track in TRACKS + (large(),):
            for place in range(track.places):
                found = twin(track, place)
                self.right(found)
                more = tuple((track.places,) + step for step in steps(track, place))
                self.assertEqual(plain(found), (track.places + 1, track.arrows + more))

    def test_errors_in_their_order(self):
        for track in (T, large()):
            self.raises_for(NoPlace, part, (track, 0), 1, no_places(track))
            self.raises_for(NoPlace, twin, (track, 0), 1, no_places(track))
            self.raises_for(NoPlace, paid, (track, 0, "?", 10), 1, no_places(track))
        self.raises_for(NoLetter, paid, (T, 0, "a", 10), 2, ["c", "ab"] + [x for x in odd_things() if x != "a"])
        self.raises(NoLetter, paid, LINE, 1, "b", 2)
        self.raises_for(NoPay, paid, (T, 0, "a", 2), 3, [10, 10 ** 39, "2"] + odd_things())
        self.raises(NoLetter, paid, T, 0, "c", -1)

    def test_made_tracks_may_be_larger_than_those_of_callers(self):
        track = large()
        self.assertGreater(track.places, 12)
        self.assertGreater(len(track.arrows), 60)
        self.assertEqual(self.raises(BadTrack, Track, track.places, track.arrows).part, "places")
        wide = Track(12, tuple((place, letter, 2, 0) for place in range(12) for letter in "abcde"))
        self.assertEqual(plain(twin(wide, 0))[0], 13)
        self.assertEqual(len(twin(wide, 0).arrows), 65)
        self.assertEqual(plain(side(wide, wide))[0], 24)
        self.assertEqual(part(side(wide, wide), 12), part(wide, 0))

    def test_tracks_stay_as_they_were(self):
        for track in TRACKS + (large(),):
            before = plain(track)
            made = [part(track, 0), side(track, track), twin(track, 0)]
            made.append(renamed(track, {found[1]: found[1] for found in track.arrows}))
            made.append(paid(track, 0, track.arrows[0][1], 8))
            self.assertEqual(plain(track), before)
            self.assertTrue(all(found is not track for found in made))


if __name__ == "__main__":
    unittest.main()
