import unittest

from tests.helper import (
    DRAWN, LINE, ONE, T, TRACKS, U, V, Errors, behind, chain, drawn, enough_for, large, least_of, needs_at, nested,
    odd_things, slow_caps, slow_table, steps, sure_levels,
)
from wholestakes.growing import fewest_turns, grows, is_table, least_coins, table
from wholestakes.lots import hopeful
from wholestakes.making import side, twin
from wholestakes.tracks import Track

GREAT = (chain(2, (2, 4, 5)), chain(2, (2, 3, 7)), chain(3, (2, 4, 5)), chain(6, (2, 3)), chain(1, (5, 6, 7, 7, 8, 9, 9)))
WIDE = tuple(drawn(seed, 12, "abcd") for seed in range(100, 160))


def slow_turns(track, least):
    """The fewest turns: for each number of letters the places from which more is sure within so many, by all stakes."""
    turns = [None] * track.places
    turn = 0
    while any(coins is not None and turns[place] is None for place, coins in enumerate(least)):
        turn += 1
        goals = [
            None if coins is None else coins + (turns[place] is None or turns[place] >= turn)
            for place, coins in enumerate(least)
        ]
        found = [
            place
            for place, coins in enumerate(least)
            if coins is not None and turns[place] is None and enough_for(track, place, coins, goals)
        ]
        for place in found:
            turns[place] = turn
    return tuple(turns)


class LeastTest(unittest.TestCase):
    def test_the_examples(self):
        self.assertEqual([least_coins(track) for track in (T, U, V)], [(2, 2), (None, None), (2, 3, 3)])

    def test_None_just_at_the_places_that_are_not_hopeful(self):
        for track in TRACKS + WIDE + (large(),):
            least = least_coins(track)
            self.assertEqual((type(least), len(least)), (tuple, track.places))
            self.assertEqual(tuple(place for place in range(track.places) if least[place] is not None), hopeful(track))

    def test_going_on_over_purses(self):
        for track in TRACKS:
            least = least_coins(track)
            most = max([coins or 0 for coins in least])
            if most <= 5:
                for goal in (most + 1, most + 3):
                    sure = sure_levels(track, goal)[-1]
                    for place in hopeful(track):
                        self.assertEqual(least_of(sure, place, goal), least[place])

    def test_one_coin_less_is_held_down(self):
        for track in TRACKS + WIDE:
            least = least_coins(track)
            if hopeful(track):
                caps = tuple(None if coins is None else coins - 1 for coins in least)
                if max(coins or 0 for coins in least) < 12:
                    self.assertIs(slow_caps(track, caps), True)
                for place in hopeful(track):
                    self.assertEqual(needs_at(track, place, least), least[place])

    def test_great_least_coins(self):
        self.assertEqual(least_coins(chain(2, (2, 4, 5))), (380, 399))
        self.assertEqual(least_coins(chain(2, (2, 3, 7))), (1722, 1763))
        self.assertEqual(least_coins(chain(3, (2, 4, 5))), (2641, 2760, 2779))
        self.assertEqual(least_coins(chain(1, (5, 6, 7, 7, 8, 9, 9))), (2519,))
        for track in GREAT:
            least = least_coins(track)
            self.assertIs(slow_table(track, table(track)), True)
            self.assertEqual(tuple(entry[0] for entry in table(track)), least)
            # With one coin less at each place there is no stake that keeps one coin more everywhere.
            for place in range(track.places):
                self.assertEqual(needs_at(track, place, least), least[place])

    def test_tracks_of_twelve_places_and_of_more(self):
        ring = Track(12, tuple((place, letter, 3, (place + at) % 12) for place in range(12) for at, letter in enumerate("ab")))
        self.assertEqual(least_coins(ring), (2,) * 12)
        for track in (T, V, ring, chain(2, (2, 4, 5))):
            for other in (U, V, ring):
                both = side(track, other)
                self.assertEqual(least_coins(both), least_coins(track) + least_coins(other))
                self.assertEqual(least_coins(twin(both, 0))[-1], least_coins(track)[0])
        self.assertGreater(side(ring, V).places, 12)

    def test_a_letter_that_is_not_hopeful_matters_just_where_it_can_come(self):
        track = Track(3, ((0, "a", 3, 0), (0, "b", 3, 0), (1, "a", 3, 0), (1, "b", 1, 2), (2, "a", 1, 2)))
        self.assertEqual(least_coins(track), (2, None, None))
        self.assertEqual(table(track), ((2, 1, (1, 1)), None, None))

    def test_who_has_the_least_coins_or_more_grows(self):
        for track in TRACKS + GREAT[:3]:
            least = least_coins(track)
            for place in range(track.places):
                for coins in (0, 1, 2, 3, 380, 10 ** 39, (least[place] or 1) - 1, least[place] or 1):
                    self.assertIs(grows(track, place, coins), least[place] is not None and coins >= least[place])


class TableTest(unittest.TestCase, Errors):
    def test_table(self):
        for track in TRACKS + WIDE + (large(),):
            found = table(track)
            least = least_coins(track)
            self.assertEqual(tuple(None if entry is None else entry[0] for entry in found), least)
            self.assertIs(is_table(track, found), True)
            self.assertIs(slow_table(track, found), True)

    def test_told_tables(self):
        self.assertIs(is_table(T, ((2, 2, (1, 1)), (2, 1, (1, 1)))), True)
        self.assertIs(is_table(T, ((2, 10 ** 39, (1, 1)), (2, 7, (1, 1)))), True)
        self.assertIs(is_table(T, ((2, 1, (1, 1)), (2, 2, (1, 1)))), False)
        self.assertIs(is_table(T, ((2, 2, (1, 1)), (2, 2, (1, 1)))), False)
        self.assertIs(is_table(T, ((10 ** 39, 2, (4 * 10 ** 38, 6 * 10 ** 38)), (10 ** 39, 1, (4 * 10 ** 38, 6 * 10 ** 38)))), True)
        # Once coins fall behind those of a triple, fewer turns do not help; with more coins, more turns do not harm.
        self.assertIs(is_table(ONE, ((4, 0, (2, 2)),)), False)
        line = Track(2, ((0, "a", 2, 1), (1, "a", 2, 1)))
        self.assertIs(is_table(line, ((1, 0, (1,)), (1, 9, (1,)))), True)
        self.assertIs(is_table(line, ((1, 9, (0,)), (1, 9, (1,)))), False)
        self.assertIs(is_table(line, ((1, 10, (0,)), (1, 9, (1,)))), True)
        self.assertIs(is_table(line, ((1, 10, (0,)), (2, 9, (1,)))), False)

    def test_None_everywhere(self):
        for track in TRACKS + (large(),):
            self.assertIs(is_table(track, (None,) * track.places), True)
            self.assertIs(is_table(track, (None,) * (track.places + 1)), False)
            self.assertIs(is_table(track, (None,) * (track.places - 1)), False)
            self.assertIs(is_table(track, [None] * track.places), False)

    def test_one_number_changed_or_a_triple_left_out(self):
        for track in (T, V) + DRAWN:
            found = table(track)
            for place, entry in enumerate(found):
                if entry is None:
                    continue
                coins, turns, stake = entry
                others = [None, (coins - 1, turns, stake), (coins + 1, turns, stake), (coins, 0, stake)]
                others += [(coins, turns - 1, stake), (coins, turns + 1, stake)]
                for at in range(len(stake)):
                    for change in (-1, 1):
                        others.append((coins, turns, stake[:at] + (stake[at] + change,) + stake[at + 1:]))
                for other in others:
                    told = found[:place] + (other,) + found[place + 1:]
                    right = other is None or (min(other[0], other[1], *other[2]) >= 0 and sum(other[2]) <= other[0])
                    self.assertIs(is_table(track, told), right and slow_table(track, told), told)
                least = least_coins(track)
                told = found[:place] + ((least[place] - 1, 99, (0,) * len(stake)),) + found[place + 1:]
                self.assertIs(is_table(track, told), False)

    def test_a_place_without_a_triple_that_can_be_come_to(self):
        self.assertIs(is_table(T, ((2, 2, (1, 1)), None)), False)
        self.assertIs(is_table(T, (None, (2, 1, (1, 1)))), False)
        line = Track(2, ((0, "a", 9, 1), (1, "a", 2, 1)))
        self.assertIs(is_table(line, (None, (1, 0, (1,)))), True)
        self.assertIs(is_table(line, ((1, 0, (1,)), None)), False)

    def test_things_that_are_no_table(self):
        right = ((2, 2, (1, 1)), (2, 1, (1, 1)))
        for thing in odd_things():
            self.assertIs(is_table(T, thing), False)
            if thing is not None:
                self.assertIs(is_table(T, (thing, right[1])), False)
                self.assertIs(is_table(T, (right[0], thing)), False)
            self.assertIs(is_table(T, ((thing, 2, (1, 1)), right[1])), False)
            self.assertIs(is_table(T, ((2, thing, (1, 1)), right[1])), False)
            self.assertIs(is_table(T, ((2, 2, thing), right[1])), False)
            self.assertIs(is_table(T, ((2, 2, (thing, 1)), right[1])), False)
        for first in ([2, 2, (1, 1)], (2, 2, [1, 1]), (2, 2), (2, 2, (1, 1), 0), (2, 2, (1, 1, 0)), (2, 2, (1,)), (2, 2, (2, 1))):
            self.assertIs(is_table(T, (first, right[1])), False)
        self.assertIs(is_table(T, list(right)), False)
        self.assertIs(is_table(T, right + (None,)), False)
        self.assertIs(is_table(ONE, ((True, 0, (0, 0)),)), False)
        line = Track(1, ((0, "a", 2, 0),))
        for first in ((1, 0, (1,)), (1, 1, (1,))):
            self.assertIs(is_table(line, (first,)), True)
        for first in ((1, 0, (True,)), (True, 0, (1,)), (1, False, (1,)), (1, 0, True), (1, -1, (1,)), (-1, 0, (0,))):
            self.assertIs(is_table(line, (first,)), False)
        self.assertIs(is_table(T, (nested(36, 0), nested(36, 1))), False)

    def test_the_fifth_fact(self):
        for track in TRACKS:
            found = table(track)
            for place, entry in enumerate(found):
                if entry is not None and track.places < 4:
                    # Whatever letters come, by the table there are ever more coins in the end.
                    purses = {(place, entry[0], 0)}
                    for _ in range(4 * track.places):
                        ahead = set()
                        for here, coins, aside in purses:
                            for to, has in behind(track, here, coins, found[here][2]):
                                ahead.add((to, found[to][0], min(3, aside + has - found[to][0])))
                        purses = ahead
                    self.assertTrue(all(aside >= 3 for _, _, aside in purses))


class TurnsTest(unittest.TestCase):
    def test_by_own_steps(self):
        for track in TRACKS + WIDE:
            least = least_coins(track)
            if max(coins or 0 for coins in least) < 12:
                self.assertEqual(fewest_turns(track), slow_turns(track, least))

    def test_None_for_places_that_are_not_hopeful(self):
        for track in TRACKS + WIDE + GREAT + (large(),):
            turns = fewest_turns(track)
            self.assertEqual((type(turns), len(turns)), (tuple, track.places))
            for place in range(track.places):
                self.assertIs(turns[place] is not None, place in hopeful(track))

    def test_told_turns(self):
        self.assertEqual([fewest_turns(track) for track in (T, U, V, LINE)], [(2, 1), (None, None), (3, 2, 1), (3, 1, 2, 1)])
        ring = Track(12, tuple((place, "a", 9 if place == 0 else 1, (place + 1) % 12) for place in range(12)))
        self.assertEqual(fewest_turns(ring), (1,) + tuple(range(12, 1, -1)))
        self.assertEqual(least_coins(ring), (1,) * 12)
        for place in range(12):
            self.assertEqual(len(steps(ring, place)), 1)


if __name__ == "__main__":
    unittest.main()
