"""What holds for every function: names and arguments, nothing changed, new lists, large tracks."""

import importlib
import inspect
import unittest

from tests.helper import DRAWN, LINE, T, U, V, error_of, large
from wholestakes import (
    byone, conditions, goals, growing, holding, knowing, likeness, limits, lots, making, plain, plans, rows, slopes, stakes,
    times, tracks,
)
from wholestakes.tracks import Track

INTERFACE = {
    "tracks": "letters(track, place) arrow(track, place, letter) reached(track, place)",
    "rows": "is_row(track, place, thing) led(track, place, text) many_rows(track, place, length) "
            "row_number(track, place, text) rows(track, place, length) row_at(track, place, length, number) "
            "round_row(track, place)",
    "knowing": "knowing_after(track, place, coins, length) poorest_row(track, place, length) "
               "richest_row(track, place, length)",
    "making": "part(track, place) side(one, other) renamed(track, names) paid(track, place, letter, pay) "
              "twin(track, place)",
    "conditions": "avoiding(track, place, text) together(one, place, other, goal) by_turns(one, place, other, goal)",
    "likeness": "are_like(one, place, other, goal) unlike_row(one, place, other, goal) shrunk(track)",
    "lots": "is_full(track, thing) greatest_full(track) hopeful(track) ranks(track) least_fulls(track) "
            "row_to_full(track, place)",
    "stakes": "is_stake(track, place, coins, thing) outcome(track, place, coins, stake, letter) "
              "outcomes(track, place, coins, stake) answer(track, lot, place, coins, stake)",
    "goals": "least_for(track, place, goals) stake_for(track, place, coins, goals) parts_for(track, place, goals)",
    "times": "least_after(track, goals, length) parts_after(track, goals, length) least_within(track, goal, length) "
             "sure_after(track, place, coins, length) factor(track, place, length) soonest(track, place, coins, goal) "
             "peak(track, place, coins)",
    "plans": "is_plan(track, place, coins, goal, thing) plan(track, place, coins, goal) "
             "plan_letters(track, place, coins, goal, plan)",
    "growing": "least_coins(track) table(track) fewest_turns(track) is_table(track, thing)",
    "holding": "is_caps(track, thing) caps(track, place, coins)",
    "plain": "plain_stake(track, place, lost) plain_coins(track, place)",
    "limits": "least_coins_within(track, limit) table_within(track, limit) is_table_within(track, limit, thing) "
              "least_limit(track, place) limit_steps(track, place)",
    "slopes": "is_slope(track, limit, thing) slope(track, limit, place)",
    "byone": "is_full_by_one(track, thing) is_table_by_one(track, thing) is_caps_by_one(track, thing) "
             "hopeful_by_one(track) least_by_one(track) table_by_one(track) caps_by_one(track, place, coins)",
}


def calls(track):
    """A right call of each function, with a place of the track."""
    place = track.places - 1
    found = [step for step in track.arrows if step[0] == place]
    letter = found[0][1]
    stake = (2,) + (0,) * (len(found) - 1)
    names = {step[1]: step[1] for step in track.arrows}
    full = lots.greatest_full(track)
    told = [
        (tracks.letters, track, place), (tracks.arrow, track, place, letter), (tracks.reached, track, place),
        (rows.is_row, track, place, letter), (rows.led, track, place, letter), (rows.many_rows, track, place, 3),
        (rows.rows, track, place, 3), (rows.row_at, track, place, 3, 0), (rows.row_number, track, place, letter),
        (rows.round_row, track, place), (knowing.knowing_after, track, place, 3, 4),
        (knowing.poorest_row, track, place, 4), (knowing.richest_row, track, place, 4), (making.part, track, place),
        (making.side, track, T), (making.side, T, track), (making.renamed, track, names),
        (making.paid, track, place, letter, 3), (making.twin, track, place),
        (conditions.avoiding, track, place, "aba"), (conditions.together, track, place, T, 1),
        (conditions.together, T, 1, track, place), (conditions.by_turns, track, place, T, 1),
        (likeness.are_like, track, place, T, 1), (likeness.unlike_row, track, place, T, 1), (likeness.shrunk, track),
        (lots.is_full, track, (place,)), (lots.greatest_full, track), (lots.hopeful, track), (lots.ranks, track),
        (lots.row_to_full, track, place), (stakes.is_stake, track, place, 4, stake),
        (stakes.outcome, track, place, 4, stake, letter), (stakes.outcomes, track, place, 4, stake),
    ]
    if track.places <= 12:
        told.append((lots.least_fulls, track))
    if full:
        start = full[0]
        count = len([step for step in track.arrows if step[0] == start])
        told.append((stakes.answer, track, full, start, 4, (1,) * count if count < 5 else (0,) * count))
    return told + later_calls(track, place)


def later_calls(track, place):
    wanted = tuple((4, None, 7)[at % 3] for at in range(track.places))
    none = (None,) * track.places
    found = plans.plan(track, place, 3, 6)
    told = [
        (goals.least_for, track, place, wanted), (goals.stake_for, track, place, 9, wanted),
        (goals.parts_for, track, place, wanted), (times.least_after, track, wanted, 5), (times.parts_after, track, wanted, 5),
        (times.least_within, track, 7, 5), (times.sure_after, track, place, 40, 5), (times.factor, track, place, 5),
        (times.soonest, track, place, 3, 5), (plans.is_plan, track, place, 3, 6, found or {}),
        (plans.plan, track, place, 3, 6), (growing.least_coins, track), (growing.table, track),
        (growing.fewest_turns, track), (growing.is_table, track, none), (holding.is_caps, track, wanted),
        (holding.caps, track, place, 1), (limits.least_coins_within, track, 2), (limits.table_within, track, 2),
        (limits.is_table_within, track, 2, none), (slopes.is_slope, track, 2, none), (slopes.slope, track, 2, place),
        (byone.is_full_by_one, track, (place,)), (byone.is_table_by_one, track, none),
        (byone.is_caps_by_one, track, wanted), (byone.hopeful_by_one, track), (byone.least_by_one, track),
        (byone.table_by_one, track), (byone.caps_by_one, track, place, 1), (limits.limit_steps, track, place),
    ]
    if found is not None:
        told.append((plans.plan_letters, track, place, 3, 6, found))
    if error_of(times.peak, track, place, 1) is None:
        told.append((times.peak, track, place, 1))
    if error_of(limits.least_limit, track, place) is None:
        told.append((limits.least_limit, track, place))
    if place in lots.hopeful(track):
        told += [(plain.plain_stake, track, place, 3), (plain.plain_coins, track, place)]
    return told


class InterfaceTest(unittest.TestCase):
    def test_names_arguments_and_files(self):
        for file, lines in INTERFACE.items():
            module = importlib.import_module("wholestakes." + file)
            for line in lines.replace(") ", ")\n").split("\n"):
                name, _, rest = line.partition("(")
                found = vars(module)[name]
                self.assertEqual(found.__module__, module.__name__)
                self.assertEqual(list(inspect.signature(found).parameters), rest.rstrip(")").split(", "), name)
                self.assertIn("\ndef " + name + "(", inspect.getsource(module))

    def test_the_class(self):
        self.assertEqual(Track.__module__, "wholestakes.tracks")
        self.assertEqual(list(inspect.signature(Track).parameters), ["places", "arrows"])
        self.assertIn("__eq__", vars(Track))


class GeneralTest(unittest.TestCase):
    def test_nothing_passed_is_changed_and_equal_calls_give_equal_answers(self):
        for track in (T, U, V, LINE, large()) + DRAWN[:20]:
            before = (track.places, track.arrows)
            for function, *told in calls(track):
                kept = [dict(thing) if isinstance(thing, dict) else thing for thing in told]
                first = function(*told)
                second = function(*told)
                self.assertEqual(first, second)
                self.assertEqual(told, kept)
                if isinstance(first, (list, dict, Track)):
                    self.assertIsNot(first, second, function.__name__)
                self.assertEqual((track.places, track.arrows), before, function.__name__)

    def test_flags_are_flags(self):
        for function, *told in calls(V) + calls(U):
            if function.__name__.startswith(("is_", "are_")):
                self.assertIs(type(function(*told)), bool)

    def test_very_large_tracks(self):
        track = Track(12, tuple((place, "ab"[at], 2 + at, (place + 1 + at) % 12) for place in range(12) for at in (0, 1)))
        for _ in range(6):
            track = making.side(track, track)
        self.assertEqual((track.places, len(track.arrows)), (768, 1536))
        for function, *told in calls(track):
            function(*told)
        self.assertEqual(likeness.shrunk(track).places, 1)

    def test_a_long_way_through_many_places(self):
        ring = Track(12, tuple((place, "a", 9, (place + 1) % 12) for place in range(11)) + ((11, "b", 9, 0),))
        other = Track(11, tuple((place, "c", 1, (place + 1) % 11) for place in range(10)) + ((10, "d", 1, 0),))
        turned = conditions.by_turns(ring, 0, other, 0)
        turned = conditions.by_turns(turned, 0, Track(7, tuple((at, "e", 2, (at + 1) % 7) for at in range(7))), 0)
        self.assertEqual(turned.places, 2 * 264 * 7)
        self.assertEqual(len(tracks.reached(turned, 5)), turned.places)
        self.assertEqual(len(rows.round_row(turned, 5)), turned.places)
        self.assertEqual(rows.led(turned, 0, rows.round_row(turned, 0)), 0)
        for function, *told in calls(turned):
            function(*told)


if __name__ == "__main__":
    unittest.main()
