"""What holds for every function: names and arguments, nothing changed, new lists, large tracks."""

import importlib
import inspect
import unittest

from tests.helper import DRAWN, LINE, T, U, V, error_of, large, nothing, odd_things
from wholestakes import (
    byone, changes, conditions, fair, fees, goals, growing, holding, knowing, likeness, limits, lots, making, plain, plans,
    reading, rows, slopes, stakes, strangers, texts, times, tracks,
)
from wholestakes.desk import Desk
from wholestakes.errors import StakeError
from wholestakes.houses import House
from wholestakes.purses import Purse
from wholestakes.tracks import Track

INTERFACE = {
    "tracks": "letters(track, place) arrow(track, place, letter) reached(track, place)",
    "rows": "is_row(track, place, thing) led(track, place, text) many_rows(track, place, length) "
            "row_number(track, place, text) rows(track, place, length) row_at(track, place, length, number) "
            "round_row(track, place)",
    "knowing": "knowing_after(track, place, coins, length) poorest_row(track, place, length) "
               "richest_row(track, place, length)",
    "making": "part(track, place) side(one, other) renamed(track, names) paid(track, place, letter, pay) "
              "twin(track, place)",
    "conditions": "avoiding(track, place, text) together(one, place, other, goal) by_turns(one, place, other, goal)",
    "likeness": "are_like(one, place, other, goal) unlike_row(one, place, other, goal) shrunk(track)",
    "lots": "is_full(track, thing) greatest_full(track) hopeful(track) ranks(track) least_fulls(track) "
            "row_to_full(track, place)",
    "stakes": "is_stake(track, place, coins, thing) outcome(track, place, coins, stake, letter) "
              "outcomes(track, place, coins, stake) answer(track, lot, place, coins, stake)",
    "goals": "least_for(track, place, goals) stake_for(track, place, coins, goals) parts_for(track, place, goals)",
    "times": "least_after(track, goals, length) parts_after(track, goals, length) least_within(track, goal, length) "
             "sure_after(track, place, coins, length) factor(track, place, length) soonest(track, place, coins, goal) "
             "peak(track, place, coins)",
    "plans": "is_plan(track, place, coins, goal, thing) plan(track, place, coins, goal) "
             "plan_letters(track, place, coins, goal, plan)",
    "growing": "least_coins(track) table(track) fewest_turns(track) is_table(track, thing)",
    "holding": "is_caps(track, thing) caps(track, place, coins)",
    "plain": "plain_stake(track, place, lost) plain_coins(track, place)",
    "limits": "least_coins_within(track, limit) table_within(track, limit) is_table_within(track, limit, thing) "
              "least_limit(track, place) limit_steps(track, place)",
    "slopes": "is_slope(track, limit, thing) slope(track, limit, place)",
    "byone": "is_full_by_one(track, thing) is_table_by_one(track, thing) is_caps_by_one(track, thing) "
             "hopeful_by_one(track) least_by_one(track) table_by_one(track) caps_by_one(track, place, coins)",
    "fees": "least_with_fee(track, fee) table_with_fee(track, fee) is_table_with_fee(track, fee, thing) "
            "is_caps_with_fee(track, fee, thing) caps_with_fee(track, fee, place, coins) greatest_fee(track, place, coins)",
    "strangers": "played(track, place, coins, bettor, text) beaten(track, place, goal, house) "
                 "tabled(track, place, table, coins, text) worst(track, place, coins, bettor, length) "
                 "held(track, place, coins, bettor, length)",
    "fair": "is_fair(track, lot, thing) fair(track, lot) mean_after(track, lot, chances, place, coins, bettor, length)",
    "changes": "shut(track, place) opened(track, place) raised(track, place, most) lowered(track, place, most)",
    "texts": "track_text(track) table_text(table) goals_text(goals)",
    "reading": "read_track(text) read_table(text) read_goals(text)",
}
CLASSES = (
    (Track, "tracks", "places arrows", "__eq__()"),
    (Purse, "purses", "track place coins", "coins() place() text() lay(stake) come(letter) laid() grows() advice() back() "
                                           "depth() copy() trying(action)"),
    (House, "houses", "track place coins", "answer(stake) caps() coins() place() text() back() depth() copy() trying(action)"),
    (Desk, "desk", "", "tell(line) undoable()"),
)


def calls(track):
    """A right call of each function, with a place of the track."""
    place = track.places - 1
    found = [step for step in track.arrows if step[0] == place]
    letter = found[0][1]
    stake = (2,) + (0,) * (len(found) - 1)
    names = {step[1]: step[1] for step in track.arrows}
    full = lots.greatest_full(track)
    told = [
        (tracks.letters, track, place), (tracks.arrow, track, place, letter), (tracks.reached, track, place),
        (rows.is_row, track, place, letter), (rows.led, track, place, letter), (rows.many_rows, track, place, 3),
        (rows.rows, track, place, 3), (rows.row_at, track, place, 3, 0), (rows.row_number, track, place, letter),
        (rows.round_row, track, place), (knowing.knowing_after, track, place, 3, 4),
        (knowing.poorest_row, track, place, 4), (knowing.richest_row, track, place, 4), (making.part, track, place),
        (making.side, track, T), (making.side, T, track), (making.renamed, track, names),
        (making.paid, track, place, letter, 3), (making.twin, track, place),
        (conditions.avoiding, track, place, "aba"), (conditions.together, track, place, T, 1),
        (conditions.together, T, 1, track, place), (conditions.by_turns, track, place, T, 1),
        (likeness.are_like, track, place, T, 1), (likeness.unlike_row, track, place, T, 1), (likeness.shrunk, track),
        (lots.is_full, track, (place,)), (lots.greatest_full, track), (lots.hopeful, track), (lots.ranks, track),
        (lots.row_to_full, track, place), (stakes.is_stake, track, place, 4, stake),
        (stakes.outcome, track, place, 4, stake, letter), (stakes.outcomes, track, place, 4, stake),
    ]
    if track.places <= 12:
        told.append((lots.least_fulls, track))
    if full:
        start = full[0]
        count = len([step for step in track.arrows if step[0] == start])
        told.append((stakes.answer, track, full, start, 4, (1,) * count if count < 5 else (0,) * count))
    return told + later_calls(track, place)


def later_calls(track, place):
    wanted = tuple((4, None, 7)[at % 3] for at in range(track.places))
    none = (None,) * track.places
    found = plans.plan(track, place, 3, 6)
    told = [
        (goals.least_for, track, place, wanted), (goals.stake_for, track, place, 9, wanted),
        (goals.parts_for, track, place, wanted), (times.least_after, track, wanted, 5), (times.parts_after, track, wanted, 5),
        (times.least_within, track, 7, 5), (times.sure_after, track, place, 40, 5), (times.factor, track, place, 5),
        (times.soonest, track, place, 3, 5), (plans.is_plan, track, place, 3, 6, found or {}),
        (plans.plan, track, place, 3, 6), (growing.least_coins, track), (growing.table, track),
        (growing.fewest_turns, track), (growing.is_table, track, none), (holding.is_caps, track, wanted),
        (holding.caps, track, place, 1), (limits.least_coins_within, track, 2), (limits.table_within, track, 2),
        (limits.is_table_within, track, 2, none), (slopes.is_slope, track, 2, none), (slopes.slope, track, 2, place),
        (byone.is_full_by_one, track, (place,)), (byone.is_table_by_one, track, none),
        (byone.is_caps_by_one, track, wanted), (byone.hopeful_by_one, track), (byone.least_by_one, track),
        (byone.table_by_one, track), (byone.caps_by_one, track, place, 1), (limits.limit_steps, track, place),
    ]
    if found is not None:
        told.append((plans.plan_letters, track, place, 3, 6, found))
    if error_of(times.peak, track, place, 1) is None:
        told.append((times.peak, track, place, 1))
    if error_of(limits.least_limit, track, place) is None:
        told.append((limits.least_limit, track, place))
    if place in lots.hopeful(track):
        told += [(plain.plain_stake, track, place, 3), (plain.plain_coins, track, place)]
    return told + last_calls(track, place)


def last_calls(track, place):
    none = (None,) * track.places
    caps = (4,) * track.places
    bettor = nothing(track, place)
    row = rows.row_at(track, place, 3, 0)
    entries = growing.table(track)
    full = lots.greatest_full(track)
    told = [
        (fees.least_with_fee, track, 2), (fees.table_with_fee, track, 2), (fees.is_table_with_fee, track, 2, none),
        (fees.is_caps_with_fee, track, 2, caps), (fees.caps_with_fee, track, 2, place, 0),
        (fees.greatest_fee, track, place, 9), (strangers.played, track, place, 5, bettor, row),
        (strangers.worst, track, place, 5, bettor, 3), (strangers.held, track, place, 0, bettor, 3),
        (fair.is_fair, track, (place,), none), (fair.fair, track, (place,)), (texts.track_text, track),
        (texts.table_text, entries), (texts.goals_text, caps + none), (reading.read_table, texts.table_text(entries)),
        (reading.read_goals, texts.goals_text(caps + none)),
    ]
    if place in lots.hopeful(track):
        least = growing.least_coins(track)[place]
        told.append((strangers.tabled, track, place, entries, least + 1, row))
        told.append((strangers.beaten, track, place, 20, lambda text, coins, stake: tracks.letters(
            track, rows.led(track, place, text))[0]))
    if full:
        idle = nothing(track, full[0])
        told += [(fair.fair, track, full), (fair.mean_after, track, full, fair.fair(track, full), full[0], 5, idle, 3)]
    if len(track.arrows) <= 12:
        told += [(changes.shut, track, place), (changes.opened, track, place)]
        told += [(changes.raised, track, place, 2), (changes.lowered, track, place, 2)]
    if track.places <= 12:
        told.append((reading.read_track, texts.track_text(track)))
    return told


class InterfaceTest(unittest.TestCase):
    def test_names_arguments_and_files(self):
        for file, lines in INTERFACE.items():
            module = importlib.import_module("wholestakes." + file)
            for line in lines.replace(") ", ")\n").split("\n"):
                name, _, rest = line.partition("(")
                found = vars(module)[name]
                self.assertEqual(found.__module__, module.__name__)
                self.assertEqual(list(inspect.signature(found).parameters), rest.rstrip(")").split(", "), name)
                self.assertIn("\ndef " + name + "(", inspect.getsource(module))

    def test_the_classes(self):
        for kind, file, told, methods in CLASSES:
            self.assertEqual(kind.__module__, "wholestakes." + file)
            self.assertEqual(list(inspect.signature(kind).parameters), told.split())
            self.assertEqual(kind.__bases__, (object,))
            for line in methods.split():
                name, _, rest = line.partition("(")
                self.assertIn(name, vars(kind))
                if name != "__eq__":
                    found = list(inspect.signature(vars(kind)[name]).parameters)
                    self.assertEqual(found, ["self"] + rest.rstrip(")").split())

    def test_objects_of_the_classes_are_equal_to_nothing_of_another_kind(self):
        things = [T, Purse(T, 0, 1), House(T, 0, 1), Desk()]
        for at, thing in enumerate(things):
            for other in odd_things() + things[:at] + things[at + 1:]:
                self.assertFalse(thing == other)
                self.assertTrue(thing != other)


class GeneralTest(unittest.TestCase):
    def test_nothing_passed_is_changed_and_equal_calls_give_equal_answers(self):
        for track in (T, U, V, LINE, large()) + DRAWN[:20]:
            before = (track.places, track.arrows)
            for function, *told in calls(track):
                kept = [dict(thing) if isinstance(thing, dict) else thing for thing in told]
                first = function(*told)
                second = function(*told)
                self.assertEqual(first, second)
                self.assertEqual(told, kept)
                if isinstance(first, (list, dict, Track)):
                    self.assertIsNot(first, second, function.__name__)
                self.assertEqual((track.places, track.arrows), before, function.__name__)

    def test_no_error_that_is_not_named_for_things_of_any_kind(self):
        # A right object in the place of another argument can be right there.
        told_of = {Track: "a track", type(lambda: 0): "a bettor or a house"}
        for track in (T, U, LINE, large()):
            for function, *told in calls(track):
                if function.__module__ != "wholestakes.texts":
                    for at, thing in enumerate(told):
                        if type(thing) not in told_of:
                            for odd in odd_things():
                                self.ends(function, *told[:at], odd, *told[at + 1:])

    def ends(self, function, *told):
        """The call returns, a flag for the functions that judge, or raises an error of the package."""
        try:
            found = function(*told)
        except StakeError as error:
            self.assertIs(type(error).__base__, StakeError)
        else:
            if function.__name__.startswith("is_"):
                self.assertIs(type(found), bool)

    def test_methods_for_things_of_any_kind(self):
        for odd in odd_things():
            for track, place in ((T, 0), (U, 1), (large(), 3)):
                self.ends(Purse, track, odd, 1)
                self.ends(Purse, track, place, odd)
                self.ends(House, track, odd, 1)
                self.ends(House, track, place, odd)
                self.ends(Purse(track, place, 5).lay, odd)
                self.ends(Purse(track, place, 5).come, odd)
                self.ends(House(track, place, 0).answer, odd)
            self.ends(Desk().tell, odd)

    def test_flags_are_flags(self):
        for function, *told in calls(V) + calls(U):
            if function.__name__.startswith(("is_", "are_")):
                self.assertIs(type(function(*told)), bool)

    def test_very_large_tracks(self):
        track = Track(12, tuple((place, "ab"[at], 2 + at, (place + 1 + at) % 12) for place in range(12) for at in (0, 1)))
        for _ in range(6):
            track = making.side(track, track)
        self.assertEqual((track.places, len(track.arrows)), (768, 1536))
        for function, *told in calls(track):
            function(*told)
        self.assertEqual(likeness.shrunk(track).places, 1)

    def test_a_long_way_through_many_places(self):
        ring = Track(12, tuple((place, "a", 9, (place + 1) % 12) for place in range(11)) + ((11, "b", 9, 0),))
        other = Track(11, tuple((place, "c", 1, (place + 1) % 11) for place in range(10)) + ((10, "d", 1, 0),))
        turned = conditions.by_turns(ring, 0, other, 0)
        turned = conditions.by_turns(turned, 0, Track(7, tuple((at, "e", 2, (at + 1) % 7) for at in range(7))), 0)
        self.assertEqual(turned.places, 2 * 264 * 7)
        self.assertEqual(len(tracks.reached(turned, 5)), turned.places)
        self.assertEqual(len(rows.round_row(turned, 5)), turned.places)
        self.assertEqual(rows.led(turned, 0, rows.round_row(turned, 0)), 0)
        for function, *told in calls(turned):
            function(*told)


if __name__ == "__main__":
    unittest.main()
