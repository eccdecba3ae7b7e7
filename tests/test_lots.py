import unittest

from tests.helper import (
    ONE, T, TRACKS, U, V, Errors, comes_to, drawn, full_lots, large, lots, no_places, odd_things, walks,
)
from wholestakes.errors import NoPlace, TooMany
from wholestakes.lots import greatest_full, hopeful, is_full, least_fulls, ranks, row_to_full
from wholestakes.making import paid, side, twin
from wholestakes.tracks import Track, reached


def one_place(*pays):
    return Track(1, tuple((0, "abcdefghij"[at], pay, 0) for at, pay in enumerate(pays)))


class FullTest(unittest.TestCase, Errors):
    def test_the_examples(self):
        self.assertEqual(greatest_full(U), (1,))
        self.assertEqual((hopeful(T), hopeful(U)), ((0, 1), ()))
        self.assertEqual((ranks(U), ranks(V)), ((1, None), (1, 2, 1)))

    def test_reciprocals_that_come_to_just_one(self):
        full = [(2, 2), (3, 3, 3), (2, 3, 6), (2, 4, 4), (9,) * 9, (1,), (0,), (9, 0), (9, 1), (3, 6, 4, 4), (2, 5, 5, 9)]
        for pays in full:
            self.assertIs(is_full(one_place(*pays), (0,)), True, pays)
        for pays in [(2, 3), (2, 3, 7), (9,) * 8, (2,), (3, 3, 4), (2, 4, 5), (3, 6, 5, 4), (7,) * 6]:
            self.assertIs(is_full(one_place(*pays), (0,)), False, pays)

    def test_only_letters_that_lead_back_into_the_lot_count(self):
        track = Track(2, ((0, "a", 2, 0), (0, "b", 2, 1), (1, "a", 2, 0), (1, "b", 2, 1)))
        self.assertEqual([is_full(track, lot) for lot in ((0,), (1,), (0, 1))], [False, False, True])

    def test_is_full_of_all_lots(self):
        for track in TRACKS:
            full = full_lots(track)
            for lot in lots(track):
                self.assertIs(is_full(track, lot), lot in full)

    def test_things_that_are_no_lot(self):
        for thing in odd_things() + [0, (0, 0), (1, 0), [0, 1], (0, 2), (0, -1), (0, True), (False,), "01", (0, None)]:
            self.assertIs(is_full(ONE, thing), False)
            self.assertIs(is_full(Track(2, ((0, "a", 0, 0), (1, "a", 0, 1))), thing), False)
        for thing in odd_things():
            self.assertIs(is_full(ONE, (0, thing)), False)
            self.assertIs(is_full(ONE, (thing, 0)), False)
        self.assertIs(is_full(ONE, (0,)), True)

    def test_greatest_and_least(self):
        for track in TRACKS:
            full = full_lots(track)
            every = sorted({place for lot in full for place in lot})
            self.assertEqual(greatest_full(track), tuple(every))
            least = sorted(lot for lot in full if not any(set(small) < set(lot) for small in full))
            self.assertEqual(least_fulls(track), least)
            self.assertIs(type(least_fulls(track)), list)

    def test_two_full_lots_together_are_one(self):
        for track in TRACKS:
            full = full_lots(track)
            for one in full:
                for other in full:
                    self.assertIs(is_full(track, tuple(sorted(set(one) | set(other)))), True)

    def test_least_fulls_of_up_to_12_places(self):
        loops = Track(12, tuple((place, "a", 0, place) for place in range(12)))
        self.assertEqual(least_fulls(loops), [(place,) for place in range(12)])
        ring = Track(12, tuple((place, "a", 1, (place + 1) % 12) for place in range(12)))
        self.assertEqual(least_fulls(ring), [tuple(range(12))])
        pairs = Track(4, ((0, "a", 1, 3), (1, "a", 0, 2), (2, "a", 1, 1), (3, "b", 1, 0)))
        self.assertEqual(least_fulls(pairs), [(0, 3), (1, 2)])
        self.assertEqual(self.raises(TooMany, least_fulls, twin(loops, 0)).most, 12)
        self.assertEqual(self.raises(TooMany, least_fulls, large()).most, 12)
        self.assertEqual(least_fulls(T), [])

    def test_lists_are_new(self):
        found = least_fulls(U)
        found.append(None)
        self.assertEqual(least_fulls(U), [(1,)])

    def test_hopeful_and_row_to_full(self):
        for track in TRACKS:
            full = greatest_full(track)
            told = []
            for place in range(track.places):
                ways = [
                    text
                    for length in range(track.places)
                    for text, _, to in walks(track, place, length)
                    if to in full
                ]
                self.assertEqual(row_to_full(track, place), ways[0] if ways else None)
                if not set(reached(track, place)) & set(full):
                    told.append(place)
            self.assertEqual(hopeful(track), tuple(told))

    def test_row_to_full_is_the_least_of_the_shortest(self):
        track = Track(4, (
            (0, "a", 9, 1), (0, "b", 9, 2), (0, "c", 9, 2), (1, "a", 9, 1), (1, "b", 9, 2), (2, "d", 9, 3), (3, "a", 1, 3),
        ))
        self.assertEqual([row_to_full(track, place) for place in range(4)], ["bd", "bd", "d", ""])
        self.assertEqual(hopeful(track), ())
        self.assertIs(row_to_full(T, 0), None)
        self.assertEqual((row_to_full(U, 0), row_to_full(U, 1)), ("b", ""))

    def test_large_tracks(self):
        track = large()
        full = greatest_full(track)
        self.assertIs(is_full(track, full), True)
        self.assertEqual(full, tuple(place for place in range(track.places) if ranks(track)[place] is None))
        self.assertEqual(len(ranks(track)), track.places)
        for place in range(track.places):
            self.assertIs(row_to_full(track, place) is None, place in hopeful(track))
        self.assertEqual(hopeful(side(T, side(V, T))), tuple(range(7)))

    def test_no_place(self):
        for track in (U, large()):
            self.raises_for(NoPlace, row_to_full, (track, 0), 1, no_places(track))


class RanksTest(unittest.TestCase):
    def test_by_own_steps(self):
        for track in TRACKS + (large(),) + tuple(drawn(seed, 12, "abcd") for seed in range(100, 160)):
            found = [None] * track.places
            left = set(range(track.places))
            turn = 0
            while any(comes_to(track, place, left) < 1 for place in left):
                turn += 1
                struck = {place for place in left if comes_to(track, place, left) < 1}
                for place in struck:
                    found[place] = turn
                left -= struck
            self.assertEqual(ranks(track), tuple(found))
            self.assertEqual(greatest_full(track), tuple(sorted(left)))

    def test_a_long_chain(self):
        arrows = ((0, "a", 9, 0),) + tuple((place, "a", 1, place - 1) for place in range(1, 12))
        track = Track(12, arrows)
        self.assertEqual(ranks(track), tuple(range(1, 13)))
        self.assertEqual(ranks(paid(track, 0, "a", 1)), (None,) * 12)


if __name__ == "__main__":
    unittest.main()
