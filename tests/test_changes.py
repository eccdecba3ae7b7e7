import itertools
import unittest

from tests.helper import LINE, ONE, T, U, V, Errors, drawn, full_lots, large, no_numbers, no_places, odd_things
from wholestakes.changes import lowered, opened, raised, shut
from wholestakes.errors import NoNumber, NoPlace, TooMany
from wholestakes.lots import hopeful
from wholestakes.tracks import Track, reached

BIG = large()
SMALL = tuple(track for track in [drawn(seed, 4, "abc") for seed in range(300, 390)] if len(track.arrows) <= 8)
NINE = Track(1, tuple((0, letter, 2, 0) for letter in "abcdefghi"))
TEN = Track(1, tuple((0, letter, 9, 0) for letter in "abcdefghij"))
# Two ways to a full lot, far and near.
FORK = Track(4, (
    (0, "a", 2, 1), (0, "b", 3, 2), (1, "a", 5, 1), (2, "a", 2, 2), (2, "b", 2, 2), (3, "a", 1, 3),
))


def with_pays(track, pays):
    return Track(track.places, tuple((start, letter, pay, to) for (start, letter, _, to), pay in zip(track.arrows, pays)))


def is_hopeful(track, place):
    """Whether no full lot has a place that can be come to: all lots are tried."""
    near = set(reached(track, place))
    return not any(near & set(lot) for lot in full_lots(track))


def slow_arrows(track, place, pay, aim):
    """The least of the fewest arrows, over all choices of arrows."""
    found = []
    for chosen in itertools.product((False, True), repeat=len(track.arrows)):
        pays = [pay if change else arrow[2] for change, arrow in zip(chosen, track.arrows)]
        if is_hopeful(with_pays(track, pays), place) == aim:
            told = tuple(arrow[:2] for change, arrow in zip(chosen, track.arrows) if change)
            found.append((len(told), told))
    return min(found)[1] if found else None


def slow_steps(track, place, most, sign, aim):
    """The fewest coins of change, over all changes that come to at most so many."""
    found = []
    ranges = [range(most + 1)] * len(track.arrows)
    for change in itertools.product(*ranges):
        if sum(change) <= most:
            pays = [arrow[2] + sign * by for by, arrow in zip(change, track.arrows)]
            if all(0 <= pay <= 9 for pay in pays) and is_hopeful(with_pays(track, pays), place) == aim:
                found.append(sum(change))
    return min(found, default=None)


class ArrowsTest(unittest.TestCase, Errors):
    def test_all_choices_of_arrows(self):
        for track in (ONE, T, U, LINE, FORK) + SMALL[:30]:
            for place in range(track.places):
                for function, pay, aim in ((shut, 0, False), (opened, 9, True)):
                    found = function(track, place)
                    self.assertEqual(found, slow_arrows(track, place, pay, aim), (track.arrows, place))
                    self.assertIn(type(found), (tuple, type(None)))

    def test_nothing_where_nothing_need_be_changed(self):
        for track in SMALL + (T, U, V, LINE, ONE):
            for place in range(track.places):
                right = place in hopeful(track)
                self.assertIs(opened(track, place) == (), right)
                self.assertIs(shut(track, place) == (), not right)

    def test_told_arrows(self):
        self.assertEqual(shut(T, 0), ((0, "a"),))
        self.assertEqual(shut(T, 1), ((0, "a"),))
        self.assertEqual(opened(U, 0), ((1, "b"),))
        self.assertEqual(opened(ONE, 0), ((0, "a"),))
        self.assertEqual(opened(FORK, 0), ((2, "a"),))
        self.assertEqual(opened(FORK, 3), ((3, "a"),))
        self.assertEqual(shut(FORK, 1), ((1, "a"),))
        self.assertEqual(opened(NINE, 0), None)
        self.assertEqual(opened(TEN, 0), None)
        eight = Track(1, NINE.arrows[:8])
        # Eight letters that pay nine come to 8/9, and one that pays two to 1/2.
        self.assertEqual(opened(eight, 0), tuple((0, letter) for letter in "abcdefgh"))
        # Neither "a" nor "b" is enough alone.
        self.assertEqual(opened(Track(1, tuple((0, letter, 2, 0) for letter in "abc")), 0), ((0, "a"), (0, "b")))

    def test_places_that_cannot_be_come_to_do_not_matter(self):
        track = Track(3, ((0, "a", 0, 0), (0, "b", 9, 0), (1, "a", 3, 1), (2, "a", 1, 1)))
        self.assertEqual(shut(track, 1), ((1, "a"),))
        self.assertEqual(opened(track, 1), ())
        self.assertEqual(opened(track, 0), ((0, "a"),))

    def test_twelve_arrows_and_thirteen(self):
        twelve = Track(3, tuple((place, letter, 4 + place, (place + at) % 3)
                                for place in range(3) for at, letter in enumerate("abcd")))
        for place in range(3):
            self.assertEqual(shut(twelve, place), slow_arrows(twelve, place, 0, False))
            self.assertEqual(opened(twelve, place), slow_arrows(twelve, place, 9, True))
        thirteen = Track(3, twelve.arrows + ((2, "e", 1, 0),))
        for function in (shut, opened):
            for track in (thirteen, BIG):
                self.assertEqual(self.raises(TooMany, function, track, 0).most, 12)
                self.raises_for(NoPlace, function, (track, 0), 1, no_places(track))
            self.raises_for(NoPlace, function, (T, 0), 1, no_places(T))


class StepsTest(unittest.TestCase, Errors):
    def test_all_changes(self):
        for track in (ONE, T, U, LINE, FORK) + SMALL[30:52]:
            if len(track.arrows) <= 6:
                for place in range(track.places):
                    for function, sign, aim in ((raised, 1, True), (lowered, -1, False)):
                        told = slow_steps(track, place, 4, sign, aim)
                        for most in range(5):
                            right = told if told is not None and told <= most else None
                            self.assertEqual(function(track, place, most), right, (track.arrows, place, most))

    def test_told_coins(self):
        self.assertEqual([raised(ONE, 0, most) for most in range(5)], [None, 1, 1, 1, 1])
        self.assertEqual([raised(U, 0, most) for most in range(5)], [None, None, 2, 2, 2])
        self.assertEqual([lowered(ONE, 0, most) for most in range(5)], [0, 0, 0, 0, 0])
        self.assertEqual([lowered(LINE, 0, most) for most in range(5)], [None] * 5)
        self.assertEqual([lowered(FORK, 0, most) for most in range(5)], [0] * 5)
        self.assertEqual([lowered(FORK, 1, most) for most in range(5)], [None] * 4 + [4])
        self.assertEqual([raised(FORK, 3, most) for most in range(5)], [None, 1, 1, 1, 1])

    def test_no_pay_above_nine_or_below_none(self):
        self.assertEqual([raised(TEN, 0, most) for most in range(5)], [None] * 5)
        zero = Track(2, ((0, "a", 9, 1), (0, "b", 0, 0), (1, "a", 9, 1)))
        self.assertEqual(lowered(zero, 0, 4), 0)
        self.assertEqual(lowered(zero, 1, 4), None)
        # One more on the one letter that is not nine is just enough; nothing else can be raised.
        one = Track(1, tuple((0, letter, 9, 0) for letter in "abcdefgh") + ((0, "i", 8, 0),))
        self.assertEqual([raised(one, 0, most) for most in range(5)], [None] * 5)
        eights = Track(1, tuple((0, letter, 8, 0) for letter in "abcdefgh"))
        self.assertEqual([raised(eights, 0, most) for most in range(5)], [None, 1, 1, 1, 1])
        two = Track(1, tuple((0, letter, 9, 0) for letter in "abcd") + ((0, "e", 2, 0), (0, "f", 1, 0)))
        self.assertEqual([raised(two, 0, most) for most in range(5)], [slow_steps(two, 0, most, 1, True) for most in range(5)])

    def test_twelve_arrows_and_thirteen(self):
        twelve = Track(3, tuple((place, letter, 5, (place + at) % 3) for place in range(3) for at, letter in enumerate("abcd")))
        self.assertEqual([lowered(twelve, 0, most) for most in range(5)], [None] * 4 + [4])
        self.assertEqual([raised(twelve, 0, most) for most in range(5)], [0] * 5)
        fours = Track(3, tuple(arrow[:2] + (4,) + arrow[3:] for arrow in twelve.arrows))
        self.assertEqual([raised(fours, 0, most) for most in range(5)], [None, 1, 1, 1, 1])
        thirteen = Track(3, twelve.arrows + ((2, "e", 1, 0),))
        for function in (raised, lowered):
            for track in (thirteen, BIG):
                self.assertEqual(self.raises(TooMany, function, track, 0, 0).most, 12)
                self.raises_for(NoPlace, function, (track, 0, -1), 1, no_places(track))
                self.raises_for(NoNumber, function, (track, 0, 0), 2, no_numbers(4) + [5])
            self.raises_for(NoPlace, function, (T, 0, -1), 1, no_places(T))
            self.raises_for(NoNumber, function, (T, 0, 0), 2, odd_things() + [5, -1])


if __name__ == "__main__":
    unittest.main()
