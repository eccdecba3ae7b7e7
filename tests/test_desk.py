import random
import unittest

from tests.helper import DRAWN, GROWING, LINE, ONE, T, TRACKS, U, V, Errors, chain, nested, odd_things
from wholestakes.desk import Desk
from wholestakes.errors import (
    BadText, BadTrack, NoGoals, NoLimit, NoLine, NoName, NoNumber, NoPlace, NothingDone, TooMany,
)
from wholestakes.goals import least_for
from wholestakes.growing import least_coins
from wholestakes.limits import least_coins_within, least_limit
from wholestakes.lots import hopeful, ranks
from wholestakes.texts import track_text
from wholestakes.times import sure_after
from wholestakes.tracks import Track

FORTY = "1" + "0" * 39


def line_of(track):
    return track_text(track).replace("\n", "|")


def told(values):
    return " ".join("-" if value is None else str(value) for value in values)


def desk_with(**tracks):
    desk = Desk()
    for name, track in tracks.items():
        desk.tell("track " + name + " " + line_of(track))
    return desk


def everything(desk):
    """All that a desk tells about what it keeps."""
    names = desk.tell("names")
    found = [names, desk.undoable()]
    if names != "none":
        found += [desk.tell(word + " " + name) for name in names.split(" ") for word in ("ranks", "least")]
    return found


class AnswersTest(unittest.TestCase, Errors):
    def test_tracks_kept_and_dropped(self):
        desk = Desk()
        self.assertEqual((desk.tell("names"), desk.undoable()), ("none", 0))
        self.assertEqual(desk.tell("track t " + line_of(T)), "ok")
        self.assertEqual(desk.tell("track abcdefgh " + line_of(U)), "ok")
        self.assertEqual(desk.tell("track z " + line_of(V)), "ok")
        self.assertEqual((desk.tell("names"), desk.undoable()), ("abcdefgh t z", 3))
        self.assertEqual(desk.tell("drop t"), "ok")
        self.assertEqual((desk.tell("names"), desk.undoable()), ("abcdefgh z", 4))
        self.assertEqual(desk.tell("drop abcdefgh"), "ok")
        self.assertEqual(desk.tell("drop z"), "ok")
        self.assertEqual((desk.tell("names"), desk.undoable()), ("none", 6))

    def test_a_track_in_the_place_of_an_elder_one(self):
        desk = desk_with(t=T)
        self.assertEqual(desk.tell("hopeful t"), "0 1")
        self.assertEqual(desk.tell("track t " + line_of(U)), "ok")
        self.assertEqual(desk.tell("names"), "t")
        self.assertEqual(desk.tell("hopeful t"), "none")
        desk.tell("undo")
        self.assertEqual(desk.tell("hopeful t"), "0 1")

    def test_told_answers(self):
        desk = desk_with(t=T, u=U, v=V, line=LINE)
        for line, right in (
            ("hopeful t", "0 1"), ("hopeful u", "none"), ("hopeful v", "0 1 2"), ("ranks u", "1 -"), ("ranks v", "1 2 1"),
            ("least t", "2 2"), ("least u", "- -"), ("least v", "2 3 3"), ("within t 0", "- -"), ("within t 100", "2 2"),
            ("for t 0 5,5", "5"), ("for t 0 -,-", "0"), ("for t 1 -,7", str(least_for(T, 1, (None, 7)))),
            ("sure t 0 10 2", str(sure_after(T, 0, 10, 2))), ("sure u 1 7 60", "7"), ("sure t 0 0 0", "0"),
            ("limit u 0", "none"), ("limit t 0", str(least_limit(T, 0))), ("names", "line t u v"),
        ):
            self.assertEqual(desk.tell(line), right, line)

    def test_answers_are_those_of_the_functions(self):
        for track in TRACKS + GROWING:
            desk = desk_with(x=track)
            self.assertEqual(desk.tell("hopeful x"), told(hopeful(track)) or "none")
            self.assertEqual(desk.tell("ranks x"), told(ranks(track)))
            self.assertEqual(desk.tell("least x"), told(least_coins(track)))
            for limit in (0, 1, 5, 100):
                self.assertEqual(desk.tell("within x %d" % limit), told(least_coins_within(track, limit)))
            place = track.places - 1
            goals = tuple((9, None, 0)[at % 3] for at in range(track.places))
            word = ",".join("-" if goal is None else str(goal) for goal in goals)
            self.assertEqual(desk.tell("for x %d %s" % (place, word)), str(least_for(track, place, goals)))
            self.assertEqual(desk.tell("sure x %d 50 7" % place), str(sure_after(track, place, 50, 7)))
            right = least_limit(track, place)
            self.assertEqual(desk.tell("limit x %d" % place), "none" if right is None else str(right))
            self.assertEqual(desk.undoable(), 1)

    def test_great_numbers(self):
        desk = desk_with(one=Track(1, ((0, "a", 9, 0),)))
        self.assertEqual(desk.tell("sure one 0 " + FORTY + " 60"), str(10 ** 39 * 9 ** 60))
        self.assertEqual(desk.tell("for one 0 " + FORTY), str(-(-10 ** 39 // 9)))

    def test_errors_of_the_functions(self):
        desk = desk_with(t=T, u=U)
        before = everything(desk)
        for kind, lines in (
            (NoPlace, ("for t 2 5", "for t 2 5,5", "sure t 2 5 61", "limit t 2", "limit u 2", "limit t " + FORTY)),
            (NoLimit, ("within t 101", "within u " + FORTY)),
            (NoNumber, ("sure t 0 5 61", "sure u 1 0 " + FORTY)),
            (NoGoals, ("for t 0 5", "for t 1 5,5,5", "for u 0 -")),
        ):
            for line in lines:
                self.raises(kind, desk.tell, line)
        self.assertEqual(everything(desk), before)

    def test_a_limit_above_a_hundred(self):
        steep = chain(3, (2, 3, 7))
        desk = desk_with(s=steep)
        self.assertEqual(desk.tell("hopeful s"), "0 1 2")
        self.assertEqual(self.raises(TooMany, desk.tell, "limit s 0").most, 100)
        self.assertEqual(everything(desk)[:2], ["s", 1])


class LinesTest(unittest.TestCase, Errors):
    def test_no_lines(self):
        desk = desk_with(t=T, u=U)
        before = everything(desk)
        right = line_of(T)
        lines = [thing for thing in odd_things()] + [
            "", " ", "names ", " names", "names t", "Names", "name", "undo ", " undo", "undo t", "undo 1", "undoable",
            "drop", "drop ", "drop t u", "drop  t", "drop t ", " drop t", "drop T", "drop abcdefghi", "drop t1", "drop 1",
            "hopeful", "hopeful ", "hopeful t ", "hopeful  t", "hopeful t 1", "hopeful T", "hopeful t\t", "hopeful\tt",
            "ranks", "ranks t 0", "ranks t t", "ranks t ", "least", "least t 5", "least  t", "least abcdefghi",
            "within", "within t", "within t ", "within t 5 5", "within t -", "within t -1", "within t 05", "within t +5",
            "within t x", "within  t 5", "within t  5", "within t 5 ", "within t 1" + "0" * 40, "within T 5", "within 5 t",
            "for", "for t", "for t 0", "for t 0 ", "for t 0 5,", "for t 0 ,5", "for t 0 5,,5", "for t 0 ,", "for t 0 5, 5",
            "for t 0 5 5", "for t 0 05,5", "for t 0 5,1" + "0" * 40, "for t 0 5,--", "for t - 5,5", "for t 00 5,5",
            "for t 5,5 0", "for t 0 5;5", "for t 0 (5,5)", "for t 0 None,5", "for t 0 5,-5", "for t 0  5,5",
            "sure", "sure t", "sure t 0", "sure t 0 5", "sure t 0 5 2 1", "sure t 0 5 -", "sure t 0 -5 2", "sure t 0 5 02",
            "sure t 0 5 2 ", "sure t 0  5 2", "sure t 01 5 2", "sure t 0 5 1" + "0" * 40,
            "limit", "limit t", "limit t ", "limit t 0 1", "limit t -", "limit t 00", "limit 0 t", "limit t a",
            "track", "track ", "track t", "track t ", "track  ", "track  " + right, "track T " + right, "track t1 " + right,
            "track abcdefghi " + right, "track 1 " + right, " track t " + right, "tracks t " + right, "Track t " + right,
            "track t " + right + "\n", "track t " + track_text(T), "track\tt " + right, "names\n", "undo\n", "\n", "hopeful t\n",
            "track t places 1\n", "hopeful\nt", "what t", "t", "coins t", "track - " + right,
        ]
        for line in lines:
            self.raises(NoLine, desk.tell, line)
        self.assertEqual(everything(desk), before)
        self.raises_for(NoLine, Desk().tell, (0,), 0, lines)

    def test_wrong_texts_of_tracks(self):
        desk = desk_with(t=T)
        before = everything(desk)
        right = line_of(T)
        for text, line in (
            (" " + right, 1), (right + " ", 6), (right[:-1], 5), ("x", 1), (" ", 1), ("|", 1), ("places 2", 1), ("||", 1),
            ("places 2| arrow 0 a 3 0|", 2), ("places 2|arrow 0 a 3 0 |", 2), ("places 2|arrow 0 a  3 0|", 2),
            ("places 2||", 2), (right + "|", 6), ("places 02|", 1), ("places 2|arrow 0 a 3 0|\t|", 3), (right + right, 6),
            ("places 2|arrow 0 a 3 0 | places 2", 2), (right.replace("|", "||", 1), 2),
        ):
            self.assertEqual(self.raises(BadText, desk.tell, "track t " + text).line, line, text)
        for text, part in (
            ("places 13|", "places"), ("places 0|arrow 0 a 2 0|", "places"), ("places 2|", "arrows"),
            ("places 2|arrow 0 a 2 0|arrow 0 a 3 0|", "twice"), ("places 2|arrow 0 a 2 0|", "stuck"),
            ("places 1|arrow 0 a 10 0|", "arrows"),
        ):
            for name in ("t", "new"):
                self.assertEqual(self.raises(BadTrack, desk.tell, "track " + name + " " + text).part, part)
        self.assertEqual(everything(desk), before)

    def test_no_names(self):
        desk = desk_with(t=T)
        before = everything(desk)
        for name in ("u", "tt", "abcdefgh"):
            for line in (
                "drop " + name, "hopeful " + name, "ranks " + name, "least " + name, "within " + name + " 101",
                "for " + name + " 99 5", "sure " + name + " 99 5 61", "limit " + name + " 99", "within " + name + " 5",
            ):
                self.assertEqual(self.raises(NoName, desk.tell, line).name, name)
        self.assertEqual(everything(desk), before)
        desk.tell("drop t")
        self.assertEqual(self.raises(NoName, desk.tell, "drop t").name, "t")
        self.assertEqual(self.raises(NoName, desk.tell, "least t").name, "t")

    def test_names_of_words(self):
        desk = Desk()
        for name in ("names", "undo", "track", "drop", "none", "ok", "for", "a", "abcdefgh"):
            desk.tell("track " + name + " " + line_of(ONE))
            self.assertEqual(desk.tell("hopeful " + name), "none")
        self.assertEqual(desk.tell("names"), "a abcdefgh drop for names none ok track undo")
        self.assertEqual(desk.undoable(), 9)

    def test_no_line_is_a_line_behind_forty_levels(self):
        self.raises(NoLine, Desk().tell, nested(36, "names"))


class UndoTest(unittest.TestCase, Errors):
    def test_line_by_line_to_the_begin(self):
        desk = Desk()
        self.raises(NothingDone, desk.tell, "undo")
        seen = [everything(desk)]
        lines = ["track t " + line_of(T), "track u " + line_of(U), "track t " + line_of(V), "drop u", "track u " + line_of(LINE),
                 "drop t", "drop u", "track t " + line_of(T), "track t " + line_of(T)]
        for line in lines:
            self.assertEqual(desk.tell(line), "ok")
            seen.append(everything(desk))
        self.assertEqual(desk.undoable(), 9)
        for right in seen[-2::-1]:
            self.assertEqual(desk.tell("undo"), "ok")
            self.assertEqual(everything(desk), right)
        for _ in range(2):
            self.raises(NothingDone, desk.tell, "undo")
            self.assertEqual(everything(desk), ["none", 0])

    def test_questions_and_refused_lines_are_not_counted(self):
        desk = desk_with(t=T)
        for line in ("names", "hopeful t", "least t", "within t 5", "for t 0 5,5", "sure t 0 5 5", "limit t 0", "ranks t"):
            desk.tell(line)
        for line in ("drop u", "track u", "track u places 1|", "track u x", "drop T", "limit t 9", "hopeful u", "x"):
            with self.assertRaises(ValueError):
                desk.tell(line)
        self.assertEqual(desk.undoable(), 1)
        self.assertEqual(desk.tell("undo"), "ok")
        self.assertEqual((desk.tell("names"), desk.undoable()), ("none", 0))

    def test_going_on_behind_an_undo(self):
        desk = desk_with(t=T, u=U)
        desk.tell("undo")
        self.assertEqual((desk.tell("names"), desk.undoable()), ("t", 1))
        desk.tell("track v " + line_of(V))
        desk.tell("drop t")
        desk.tell("undo")
        desk.tell("undo")
        self.assertEqual((desk.tell("names"), desk.undoable()), ("t", 1))

    def test_two_desks_go_apart(self):
        one, other = desk_with(t=T), desk_with(t=U)
        one.tell("drop t")
        self.assertEqual(other.tell("names"), "t")
        self.assertEqual(other.tell("hopeful t"), "none")
        self.assertEqual((one.undoable(), other.undoable()), (2, 1))
        self.assertFalse(one == other)
        for thing in odd_things():
            self.assertFalse(one == thing)

    def test_drawn_lines_against_an_own_account(self):
        draw = random.Random(1)
        desk, states = Desk(), [{}]
        for _ in range(400):
            name = draw.choice(("a", "b", "cc"))
            kind = draw.choice(("track", "track", "drop", "undo"))
            if kind == "track":
                track = draw.choice(DRAWN)
                self.assertEqual(desk.tell("track " + name + " " + line_of(track)), "ok")
                states.append({**states[-1], name: track})
            elif kind == "drop" and name in states[-1]:
                self.assertEqual(desk.tell("drop " + name), "ok")
                states.append({key: track for key, track in states[-1].items() if key != name})
            elif kind == "drop":
                self.assertEqual(self.raises(NoName, desk.tell, "drop " + name).name, name)
            elif len(states) > 1:
                self.assertEqual(desk.tell("undo"), "ok")
                states.pop()
            else:
                self.raises(NothingDone, desk.tell, "undo")
            self.assertEqual(desk.undoable(), len(states) - 1)
            self.assertEqual(desk.tell("names"), " ".join(sorted(states[-1])) or "none")
            for name, track in states[-1].items():
                self.assertEqual(desk.tell("ranks " + name), told(ranks(track)))


if __name__ == "__main__":
    unittest.main()
