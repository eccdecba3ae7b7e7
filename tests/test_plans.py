import unittest

from tests.helper import (
    DRAWN, LINE, ONE, T, TRACKS, U, V, Errors, behind, chain, drawn, large, nested, no_places, odd_things, stakes, steps,
    sure_levels,
)
from wholestakes.errors import NoCoins, NoPlan, NoPlace, TooMany
from wholestakes.plans import is_plan, plan, plan_letters
from wholestakes.times import soonest
from wholestakes.tracks import Track


def play(track, place, coins, goal, told, past=()):
    """The greatest number of letters up to the goal by a told dict, None if it fails on some way: by going on."""
    if coins >= goal:
        return 0
    if (place, coins) in past or (place, coins) not in told:
        return None
    stake = told[(place, coins)]
    if type(stake) is not tuple or len(stake) != len(steps(track, place)) or sum(stake) > coins:
        return None
    found = [play(track, to, has, goal, told, past + ((place, coins),)) for to, has in behind(track, place, coins, stake)]
    return None if None in found else 1 + max(found)


class PlanTest(unittest.TestCase, Errors):
    def test_None_just_where_the_goal_is_not_sure(self):
        for track in TRACKS[:36]:
            for goal in (0, 1, 3, 6):
                sure = sure_levels(track, goal)[-1]
                for place in range(track.places):
                    for coins in range(7):
                        found = plan(track, place, coins, goal)
                        self.assertIs(found is not None, coins >= goal or (place, coins) in sure)
                        if found is not None:
                            self.assertIs(type(found), dict)
                            letters = play(track, place, coins, goal, found)
                            self.assertIsNot(letters, None)
                            self.assertIs(is_plan(track, place, coins, goal, found), True)
                            self.assertEqual(plan_letters(track, place, coins, goal, found), letters)

    def test_plans_for_great_goals(self):
        for track, coins in ((T, 2), (V, 3), (chain(2, (2, 5)), 14), (chain(1, (2, 3, 7)), 41), (LINE, 999)):
            for place in range(track.places):
                for goal in (999, 1000):
                    found = plan(track, place, coins, goal)
                    if soonest(track, place, coins, goal) is None:
                        self.assertIs(found, None)
                    else:
                        self.assertIs(is_plan(track, place, coins, goal, found), True)
                        self.assertGreaterEqual(
                            plan_letters(track, place, coins, goal, found), soonest(track, place, coins, goal))
        self.assertIs(plan(T, 0, 1, 1000), None)

    def test_tracks_with_other_parts(self):
        track = large()
        for place in range(track.places):
            found = plan(track, place, 4, 6)
            if found is not None:
                self.assertEqual(plan_letters(track, place, 4, 6, found), play(track, place, 4, 6, found))

    def test_with_the_goal_at_first_each_dict_is_one(self):
        for told in ({}, {(0, 5): (9, 9)}, {"a": None, (1,): [], None: {}}):
            for coins, goal in ((5, 5), (6, 5), (0, 0), (10 ** 39, 1000)):
                self.assertIs(is_plan(U, 0, coins, goal, told), True)
                self.assertEqual(plan_letters(U, 0, coins, goal, told), 0)
        self.assertIs(type(plan(U, 0, 5, 5)), dict)
        for thing in odd_things() + [[((0, 2), (1, 1))], ((0, 2),)]:
            if not isinstance(thing, dict):
                self.assertIs(is_plan(U, 0, 5, 5, thing), False)
                self.raises(NoPlan, plan_letters, U, 0, 5, 5, thing)

    def test_each_dict_is_new(self):
        found = plan(T, 0, 2, 9)
        kept = dict(found)
        found.clear()
        self.assertEqual(plan(T, 0, 2, 9), kept)


class IsPlanTest(unittest.TestCase, Errors):
    def test_a_told_plan(self):
        self.assertIs(is_plan(ONE, 0, 3, 4, {(0, 3): (1, 1)}), False)
        line = Track(3, ((0, "a", 2, 1), (0, "b", 1, 2), (1, "a", 2, 2), (2, "a", 1, 2)))
        told = {(0, 4): (1, 0), (1, 5): (2, )}
        self.assertIs(is_plan(line, 0, 4, 6, told), False)
        self.assertIs(is_plan(line, 0, 4, 3, told), True)
        line = Track(3, ((0, "a", 2, 1), (0, "b", 3, 2), (1, "a", 2, 2), (2, "a", 4, 2)))
        told = {(0, 4): (1, 1), (1, 4): (2,), (2, 5): (1,)}
        self.assertIs(is_plan(line, 0, 4, 6, told), True)
        self.assertEqual(plan_letters(line, 0, 4, 6, told), 2)
        self.assertIs(is_plan(line, 0, 4, 7, told), False)
        for thing in ((2, 1), (1, 0), (0, 0), (1,), (1, 1, 0), [1, 1], (1, True), (1, -1), (4, 1), None, "ab", nested(36, 1)):
            self.assertIs(is_plan(line, 0, 4, 6, {**told, (0, 4): thing}), False, thing)
        for key in told:
            self.assertIs(is_plan(line, 0, 4, 6, {other: told[other] for other in told if other != key}), False)
        self.assertIs(is_plan(line, 0, 5, 6, told), False)
        self.assertIs(is_plan(line, 1, 4, 6, told), True)

    def test_each_stake_changed_to_each_other_one(self):
        for track in DRAWN[:20] + (T, V):
            for place in range(track.places):
                found = plan(track, place, 3, 5)
                if found:
                    for key in found:
                        for stake in stakes(track, *key):
                            told = {**found, key: stake}
                            letters = play(track, place, 3, 5, told)
                            self.assertIs(is_plan(track, place, 3, 5, told), letters is not None)
                            if letters is None:
                                self.raises(NoPlan, plan_letters, track, place, 3, 5, told)
                            else:
                                self.assertEqual(plan_letters(track, place, 3, 5, told), letters)
                    key = next(iter(found))
                    self.assertIs(is_plan(track, place, 3, 5, {**found, key: stakes(track, *key)[0] + (0,)}), False)

    def test_more_keys_of_any_kind_do_not_matter(self):
        found = plan(T, 0, 2, 9)
        more = {**found, (0, -1): (1, 1), (5, 5): None, (0,): [], "a": {}, None: 0, nested(0, (0, 1, 2)): (), b"": nested(36, 0)}
        more.update({(0, 10 ** 39): (1, 1), len: 1, int: 2, ((0, 2), (0, 2)): (), "0": (), 0: (), range(3): 3, (None, "a"): 1})
        self.assertIs(is_plan(T, 0, 2, 9, more), True)
        self.assertEqual(plan_letters(T, 0, 2, 9, more), plan_letters(T, 0, 2, 9, found))

    def test_keys_are_pairs_of_integers(self):
        line = Track(2, ((0, "a", 3, 1), (1, "a", 3, 0)))
        self.assertIs(is_plan(line, 0, 1, 3, {(0, 1): (1,)}), True)
        self.assertIs(is_plan(line, 0, 1, 3, {(False, 1): (1,)}), False)
        self.assertIs(is_plan(line, 0, 1, 3, {(0, True): (1,)}), False)
        self.raises(NoPlan, plan_letters, line, 0, 1, 3, {(0, True): (1,)})

    def test_plays_that_go_round_or_come_to_nothing(self):
        ring = Track(2, ((0, "a", 1, 1), (1, "a", 1, 0), (1, "b", 3, 0)))
        self.assertIs(is_plan(ring, 0, 3, 5, {(0, 3): (0,), (1, 3): (0, 0)}), False)
        self.assertIs(is_plan(ring, 0, 3, 5, {(0, 3): (2,), (1, 3): (0, 1), (0, 2): (1,), (1, 2): (1, 1)}), False)
        loop = Track(1, ((0, "a", 2, 0), (0, "b", 0, 0)))
        told = {(0, coins): (coins, 0) for coins in range(9)}
        self.assertIs(is_plan(loop, 0, 3, 5, told), False)
        self.assertIs(is_plan(loop, 0, 0, 1, told), False)
        self.assertIs(is_plan(loop, 0, 0, 0, told), True)
        self.assertIs(plan(loop, 0, 3, 5), None)

    def test_the_longest_play(self):
        # Each letter but "a" ends it at once; with "a" one coin more comes each time.
        track = Track(1, ((0, "a", 2, 0),))
        told = {(0, coins): (1,) for coins in range(1, 1000)}
        self.assertEqual(plan_letters(track, 0, 1, 1000, told), 999)
        self.assertEqual(plan_letters(track, 0, 400, 1000, told), 600)
        told[(0, 700)] = (700,)
        self.assertEqual(plan_letters(track, 0, 1, 1000, told), 700)
        self.assertEqual(plan_letters(track, 0, 701, 1000, told), 299)

    def test_more_rows_than_can_be_gone_through(self):
        track = Track(1, ((0, "a", 3, 0), (0, "b", 3, 0)))
        told = {(0, coins): (1, 1) for coins in range(2, 1000)}
        self.assertIs(is_plan(track, 0, 2, 1000, told), True)
        self.assertEqual(plan_letters(track, 0, 2, 1000, told), 998)
        told[(0, 999)] = (0, 0)
        self.assertIs(is_plan(track, 0, 2, 1000, told), False)

    def test_things_that_are_no_plan(self):
        for thing in odd_things():
            self.assertIs(is_plan(T, 0, 2, 9, thing), False)
            self.raises(NoPlan, plan_letters, T, 0, 2, 9, thing)
        for thing in odd_things():
            told = {**plan(T, 0, 2, 9), (0, 2): thing}
            self.assertIs(is_plan(T, 0, 2, 9, told), False)

    def test_errors_in_their_order(self):
        for track in (T, large()):
            self.raises_for(NoPlace, plan, (track, 0, -1, -1), 1, no_places(track))
            for function in (is_plan, plan_letters):
                self.raises_for(NoPlace, function, (track, 0, -1, -1, None), 1, no_places(track))
        self.raises_for(NoCoins, plan, (T, 0, 0, 1001), 2, odd_things())
        self.raises_for(NoCoins, plan, (T, 0, 0, 0), 3, odd_things())
        for function in (is_plan, plan_letters):
            self.raises_for(NoCoins, function, (T, 0, 0, 1001, None), 2, odd_things())
            self.raises_for(NoCoins, function, (T, 0, 0, 0, None), 3, odd_things())
            for coins in (0, 2000):
                for goal in (1001, 10 ** 39):
                    self.assertEqual(self.raises(TooMany, function, T, 0, coins, goal, None).most, 1000)
                    self.assertEqual(self.raises(TooMany, plan, T, 0, coins, goal).most, 1000)
        self.raises(NoPlan, plan_letters, T, 0, 0, 1, {})

    def test_tracks_of_twelve_places(self):
        track = drawn(116, 12, "abcd")
        for place in range(track.places):
            found = plan(track, place, 900, 1000)
            if found is not None:
                letters = plan_letters(track, place, 900, 1000, found)
                self.assertGreaterEqual(letters, soonest(track, place, 900, 1000))


if __name__ == "__main__":
    unittest.main()
