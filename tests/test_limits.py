import unittest

from tests.helper import (
    DRAWN, GROWING, LINE, ONE, T, TRACKS, U, V, Errors, chain, drawn, large, least_of, no_places, odd_things, slow_caps,
    slow_table, sure_levels, within,
)
from wholestakes.errors import NoLimit, NoPlace, TooMany
from wholestakes.growing import is_table, least_coins, table
from wholestakes.limits import is_table_within, least_coins_within, least_limit, limit_steps, table_within
from wholestakes.lots import hopeful
from wholestakes.making import side
from wholestakes.slopes import slope
from wholestakes.tracks import Track

WIDE = tuple(drawn(seed, 12, "abcd") for seed in range(100, 116))
STEPPED = (drawn(723, 5, "abcd"), drawn(793, 5, "abcd"), drawn(1967, 5, "abcd"))
# With a limit of 100 the bettor grows at the one, and not quite at the other.
JUST = Track(3, (
    (0, "a", 2, 0), (0, "b", 5, 0), (0, "c", 0, 2), (1, "a", 3, 1), (1, "b", 3, 0), (1, "c", 0, 0),
    (2, "a", 3, 1), (2, "b", 4, 0), (2, "c", 5, 1), (2, "d", 6, 1),
))
ABOVE = Track(3, (
    (0, "a", 2, 2), (0, "b", 3, 1), (1, "a", 2, 1), (1, "b", 3, 2), (1, "c", 7, 2), (2, "a", 2, 2), (2, "b", 4, 2),
    (2, "c", 0, 1),
))
# Here a limit of 100 is better than one of 99, and one of 101 would be better still.
AT_100 = Track(5, (
    (0, "a", 9, 4), (0, "b", 9, 3), (1, "a", 2, 4), (1, "b", 4, 1), (1, "c", 1, 4), (2, "a", 3, 2), (2, "b", 2, 3),
    (2, "c", 2, 4), (3, "a", 3, 4), (3, "b", 6, 1), (3, "c", 9, 0), (4, "a", 2, 1), (4, "b", 9, 2), (4, "c", 4, 1),
    (4, "d", 6, 1),
))
NO_LIMITS = odd_things() + [-1, 101, 10 ** 39, "1", True, (1,)]


class LeastTest(unittest.TestCase, Errors):
    def test_going_on_over_purses(self):
        for track in TRACKS[:16] + GROWING:
            if track.places < 4:
                for limit in (0, 1, 2, 3, 5):
                    least = least_coins_within(track, limit)
                    most = max([coins or 0 for coins in least])
                    if most <= 5:
                        sure = sure_levels(track, most + 4, within(limit))[-1]
                        for place in range(track.places):
                            if least[place] is not None:
                                self.assertEqual(least_of(sure, place, most + 4), least[place])

    def test_just_where_there_is_no_slope(self):
        for track in TRACKS + GROWING + WIDE + STEPPED:
            for limit in (0, 1, 2, 3, 4, 6, 30, 100):
                least = least_coins_within(track, limit)
                self.assertEqual((type(least), len(least)), (tuple, track.places))
                for place in range(track.places):
                    self.assertIs(least[place] is None, slope(track, limit, place) is not None)

    def test_one_coin_less_is_held_down(self):
        for track in TRACKS + GROWING:
            for limit in (1, 2, 3, 5):
                least = least_coins_within(track, limit)
                told = tuple(None if coins is None else coins - 1 for coins in least)
                if any(least) and max(coins or 0 for coins in least) < 12:
                    self.assertIs(slow_caps(track, told, within(limit)), True)

    def test_told_least_coins(self):
        self.assertEqual([least_coins_within(T, limit) for limit in (0, 1, 2, 3)], [(None, None)] * 2 + [(2, 2)] * 2)
        self.assertEqual(least_coins_within(drawn(662, 3), 3), (3, 5, 5))
        self.assertEqual(least_coins_within(drawn(662, 3), 4), (2, 4, 4))
        self.assertEqual(least_coins_within(U, 100), (None, None))
        self.assertEqual(least_coins_within(LINE, 1), (1, 1, 1, 1))
        self.assertEqual(least_coins_within(LINE, 0), (None,) * 4)

    def test_great_limits_are_as_none(self):
        for track in TRACKS + GROWING + WIDE:
            least = least_coins(track)
            for limit in (60, 100):
                if max(coins or 0 for coins in least) <= 60:
                    self.assertEqual(least_coins_within(track, limit), least)

    def test_no_more_for_a_greater_limit(self):
        for track in GROWING[:8] + STEPPED[:1] + (JUST,):
            before = (None,) * track.places
            for limit in range(101):
                least = least_coins_within(track, limit)
                for place in range(track.places):
                    if before[place] is not None:
                        self.assertLessEqual(least[place], before[place])
                    if least[place] is not None:
                        self.assertGreaterEqual(least[place], least_coins(track)[place])
                before = least

    def test_places_that_do_not_grow_beside_others(self):
        track = side(side(U, V), side(ONE, GROWING[5]))
        for limit in (0, 2, 3, 100):
            least = ()
            for piece in (U, V, ONE, GROWING[5]):
                least += least_coins_within(piece, limit)
            self.assertEqual(least_coins_within(track, limit), least)

    def test_limits(self):
        for function, told in ((least_coins_within, (T, 0)), (table_within, (T, 0)), (is_table_within, (T, 0, None))):
            self.raises_for(NoLimit, function, told, 1, NO_LIMITS)
            for limit in (0, 100):
                function(T, limit, *told[2:])


class TableTest(unittest.TestCase):
    def test_table_within(self):
        for track in TRACKS + GROWING + WIDE + STEPPED:
            for limit in (0, 1, 2, 3, 4, 12, 100):
                found = table_within(track, limit)
                self.assertEqual(
                    tuple(None if entry is None else entry[0] for entry in found), least_coins_within(track, limit))
                self.assertIs(is_table_within(track, limit, found), True)
                self.assertIs(slow_table(track, found, within(limit)), True)

    def test_stakes_that_lay_one_more_than_the_limit(self):
        for track in TRACKS + GROWING:
            found = table(track)
            laid = max([sum(entry[2]) for entry in found if entry is not None] + [0])
            for limit in range(max(0, laid - 2), laid + 3):
                self.assertIs(is_table_within(track, limit, found), limit >= laid)
        self.assertIs(is_table_within(T, 2, ((2, 2, (1, 1)), (2, 1, (1, 1)))), True)
        self.assertIs(is_table_within(T, 1, ((2, 2, (1, 1)), (2, 1, (1, 1)))), False)
        self.assertIs(is_table_within(T, 2, ((2, 1, (1, 1)), (2, 2, (1, 1)))), False)
        self.assertIs(is_table_within(T, 0, (None, None)), True)

    def test_things_that_are_no_table(self):
        for thing in odd_things() + [((2, 2, (1, 1)),), [(2, 2, (1, 1)), (2, 1, (1, 1))], ((2, 2, (1, 1)), None)]:
            self.assertIs(is_table_within(T, 5, thing), False)
            self.assertIs(is_table_within(T, 5, ((2, 2, thing), (2, 1, (1, 1)))), False)
            if thing is not None:
                self.assertIs(is_table_within(ONE, 5, (thing,)), False)


class LimitTest(unittest.TestCase, Errors):
    def test_least_limit(self):
        for track in TRACKS + GROWING + WIDE[:6] + STEPPED:
            for place in range(track.places):
                if place not in hopeful(track):
                    self.assertIs(least_limit(track, place), None)
                elif least_coins_within(track, 100)[place] is None:
                    self.assertEqual(self.raises(TooMany, least_limit, track, place).most, 100)
                else:
                    found = least_limit(track, place)
                    self.assertIsNot(least_coins_within(track, found)[place], None)
                    # With no coins laid they stay as many as they are.
                    self.assertIs(least_coins_within(track, found - 1)[place], None)

    def test_limits_about_100(self):
        self.assertEqual(least_limit(JUST, 0), 100)
        self.assertEqual(limit_steps(JUST, 0)[0][0], 100)
        self.assertEqual([least_coins_within(JUST, limit)[0] is None for limit in (99, 100)], [True, False])
        self.assertEqual(self.raises(TooMany, least_limit, ABOVE, 0).most, 100)
        self.assertEqual(limit_steps(ABOVE, 0), [])
        self.assertEqual(hopeful(ABOVE), (0, 1, 2))
        for track in (chain(2, (2, 4, 5)), chain(2, (2, 3, 7)), chain(1, (5, 6, 7, 7, 8, 9, 9))):
            self.assertEqual(self.raises(TooMany, least_limit, track, 0).most, 100)
            self.assertEqual(limit_steps(track, 0), [])

    def test_told_limits(self):
        self.assertEqual([least_limit(T, place) for place in (0, 1)], [2, 2])
        self.assertEqual([least_limit(V, place) for place in range(3)], [3, 3, 3])
        self.assertEqual([least_limit(U, place) for place in (0, 1)], [None, None])
        self.assertEqual(least_limit(LINE, 3), 1)

    def test_limit_steps(self):
        for track in TRACKS[:12] + GROWING[:10] + STEPPED + WIDE[:2]:
            every = [least_coins_within(track, limit) for limit in range(101)]
            for place in range(track.places):
                told = [
                    (limit, every[limit][place])
                    for limit in range(101)
                    if every[limit][place] != (every[limit - 1][place] if limit > 0 else None)
                ]
                self.assertEqual(limit_steps(track, place), told)
        self.assertEqual(limit_steps(STEPPED[0], 0), [(8, 20), (9, 17), (10, 15), (12, 13)])
        self.assertEqual(limit_steps(drawn(662, 3), 0), [(3, 3), (4, 2)])
        self.assertEqual(limit_steps(U, 0), [])

    def test_a_step_at_100_and_none_behind_it(self):
        every = [least_coins_within(AT_100, limit) for limit in range(101)]
        self.assertEqual((every[99], every[100]), ((40, 222, 199, 128, 221), (38, 214, 191, 120, 213)))
        for place in range(5):
            found = limit_steps(AT_100, place)
            self.assertEqual(found[-1], (100, every[100][place]))
            self.assertEqual(found, [
                (limit, every[limit][place])
                for limit in range(1, 101)
                if every[limit][place] != every[limit - 1][place]
            ])
        self.assertLess(max(least_coins(AT_100)), 214)

    def test_lists_are_new(self):
        found = limit_steps(T, 0)
        found.append(None)
        self.assertEqual(limit_steps(T, 0), [(2, 2)])
        limit_steps(U, 0).append(None)
        self.assertEqual(limit_steps(U, 0), [])

    def test_no_place(self):
        for track in (U, DRAWN[0], large()):
            self.raises_for(NoPlace, least_limit, (track, 0), 1, no_places(track))
            self.raises_for(NoPlace, limit_steps, (track, 0), 1, no_places(track))


class EqualTest(unittest.TestCase):
    def test_a_table_within_a_limit_is_a_table(self):
        for track in TRACKS + GROWING:
            for limit in (2, 5):
                self.assertIs(is_table(track, table_within(track, limit)), True)


if __name__ == "__main__":
    unittest.main()
