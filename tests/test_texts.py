import unittest

from tests.helper import GROWING, ONE, TRACKS, U, Errors, drawn, large, odd_things
from wholestakes.conditions import by_turns
from wholestakes.errors import BadText, BadTrack
from wholestakes.fees import table_with_fee
from wholestakes.growing import least_coins, table
from wholestakes.holding import caps
from wholestakes.reading import read_goals, read_table, read_track
from wholestakes.texts import goals_text, table_text, track_text
from wholestakes.tracks import Track

BIG = large()
WIDE = tuple(drawn(seed, 12, "abcd") for seed in range(100, 120))
FORTY = "1" + "0" * 39
# What is no number: a sign, a needless zero, 41 figures, other figures.
NO_NUMBERS = ("", "-1", "+1", "00", "01", "1" + "0" * 40, "0" * 41, "1.0", "1_0", "0x1", "a", "1a", " 1", "1\t", "\t1", "1,0")


class WrittenTest(unittest.TestCase):
    def test_the_example(self):
        self.assertEqual(track_text(U), "places 2\narrow 0 a 3 0\narrow 0 b 2 1\narrow 1 a 4 0\narrow 1 b 0 1\n")

    def test_tracks(self):
        self.assertEqual(track_text(ONE), "places 1\narrow 0 a 2 0\narrow 0 b 2 0\n")
        ring = Track(12, tuple((place, "z", 9, (place + 1) % 12) for place in range(12)))
        self.assertEqual(track_text(ring), "places 12\n" + "".join(
            "arrow %d z 9 %d\n" % (place, (place + 1) % 12) for place in range(12)))
        for track in TRACKS + WIDE:
            lines = ["places %d" % track.places] + ["arrow %d %s %d %d" % arrow for arrow in track.arrows]
            self.assertEqual(track_text(track), "".join(line + "\n" for line in lines))

    def test_tracks_of_more_than_twelve_places(self):
        self.assertGreater(BIG.places, 12)
        lines = track_text(BIG).split("\n")
        self.assertEqual(lines[0], "places %d" % BIG.places)
        self.assertEqual(lines[1:], ["arrow %d %s %d %d" % arrow for arrow in BIG.arrows] + [""])

    def test_tables(self):
        self.assertEqual(table_text(((2, 2, (1, 1)), (2, 1, (1, 1)))), "coins 2 turns 2 lay 1 1\ncoins 2 turns 1 lay 1 1\n")
        self.assertEqual(table_text((None, None)), "none\nnone\n")
        self.assertEqual(table_text(((10, 0, (7,)), None)), "coins 10 turns 0 lay 7\nnone\n")
        self.assertEqual(table_text(((0, 0, (0, 0, 0)),)), "coins 0 turns 0 lay 0 0 0\n")
        great = table_text(((10 ** 39, 10 ** 39, (10 ** 39, 0)),))
        self.assertEqual(great, "coins %s turns %s lay %s 0\n" % (FORTY, FORTY, FORTY))

    def test_goals(self):
        self.assertEqual(goals_text((5, None, 0, 10 ** 39)), "5 - 0 " + FORTY + "\n")
        self.assertEqual(goals_text((None,)), "-\n")
        self.assertEqual(goals_text((7,)), "7\n")
        self.assertEqual(goals_text((None, None)), "- -\n")

    def test_numbers_of_many_thousands_of_figures(self):
        great = 9 ** 6000 * 10 ** 200
        digits = ""
        rest = great
        while rest:
            rest, low = divmod(rest, 10)
            digits = "0123456789"[low] + digits
        self.assertEqual(goals_text((great, 1)), digits + " 1\n")
        self.assertEqual(table_text(((great, 3, (great,)),)), "coins " + digits + " turns 3 lay " + digits + "\n")
        for number in (10 ** 64 - 1, 10 ** 64, 10 ** 64 + 7, 10 ** 128, 123 * 10 ** 130 + 5):
            self.assertEqual(goals_text((number,)), str(number) + "\n")

    def test_what_a_long_way_returns(self):
        ring = Track(12, tuple((place, "a", 9, (place + 1) % 12) for place in range(11)) + ((11, "b", 9, 0),))
        other = Track(11, tuple((place, "c", 1, (place + 1) % 11) for place in range(10)) + ((10, "d", 1, 0),))
        turned = by_turns(ring, 0, other, 0)
        self.assertEqual(track_text(turned).count("\n"), len(turned.arrows) + 1)
        self.assertEqual(goals_text(least_coins(turned)), " ".join(map(str, least_coins(turned))) + "\n")


class ReadBackTest(unittest.TestCase):
    def test_tracks(self):
        for track in TRACKS + GROWING + WIDE:
            found = read_track(track_text(track))
            self.assertEqual(found, track)
            self.assertIs(type(found), Track)
            self.assertIsNot(found, track)

    def test_tables(self):
        for track in TRACKS + GROWING + WIDE + (BIG,):
            for told in (table(track), table_with_fee(track, 100), (None,) * track.places):
                self.assertEqual(read_table(table_text(told)), told)
        told = ((10 ** 39, 10 ** 40 - 1, (10 ** 39, 0)), None, (0, 0, (0,)), (3, 1, (1,) * 26))
        self.assertEqual(read_table(table_text(told)), told)

    def test_goals(self):
        for told in ((5, None, 0), (None,), (10 ** 40 - 1,), (0,) * 60, least_coins(BIG), caps(U, 0, 10 ** 30)):
            self.assertEqual(read_goals(goals_text(told)), told)

    def test_what_is_for_no_track(self):
        self.assertEqual(read_table("coins 1 turns 0 lay 5 6 7\nnone\n"), ((1, 0, (5, 6, 7)), None))
        self.assertEqual(read_goals("- 3 - - 2\n"), (None, 3, None, None, 2))

    def test_numbers_of_forty_figures(self):
        self.assertEqual(read_goals(FORTY + " 0\n"), (10 ** 39, 0))
        self.assertEqual(read_table("coins %s turns %s lay %s\n" % (FORTY, FORTY, FORTY)), ((10 ** 39, 10 ** 39, (10 ** 39,)),))


class BadTest(unittest.TestCase, Errors):
    def bad(self, read, text, line):
        self.assertEqual(self.raises(BadText, read, text).line, line, text)

    def test_no_strings(self):
        for thing in odd_things():
            if not isinstance(thing, str):
                for read in (read_track, read_table, read_goals):
                    self.bad(read, thing, 0)
        for read in (read_track, read_table, read_goals):
            self.bad(read, b"none\n", 0)
            self.bad(read, 1, 0)

    def test_no_line_and_no_last_line_feed(self):
        for read in (read_track, read_table, read_goals):
            for text in ("", "none", "places 1", "5", "-", " ", "x"):
                self.bad(read, text, 1)
        self.bad(read_track, "places 1\narrow 0 a 2 0", 2)
        self.bad(read_track, "places 1\narrow 0 a 2 0\n ", 3)
        self.bad(read_track, "places 1\narrow 0 a 2 0\nx", 3)
        self.bad(read_table, "none\nnone", 2)
        self.bad(read_table, "none\nnone\nn", 3)
        self.bad(read_goals, "5 5\n-", 2)
        # A line that has no form comes ahead of what stands behind the last line feed.
        self.bad(read_track, "places 1\narrow\narrow 0 a 2 0", 2)
        self.bad(read_table, "nome\nnone", 1)

    def test_lines_of_tracks(self):
        for line in (
            "", "arrow", "arrow 0 a 2", "arrow 0 a 2 0 0", "Arrow 0 a 2 0", "arrow 0 A 2 0", "arrow 0 ab 2 0", "arrow 0 0 2 0",
            "arrow  0 a 2 0", " arrow 0 a 2 0", "arrow 0 a 2 0 ", "arrow 0 a  2 0", "arrow\t0 a 2 0", "arrow 0 a 2\t0",
            "arrow 0 a 2 0\t", "places 1", "places 2", "none", "5", "arrow 0  2 0", "arrow 0 { 2 0", "arrow 0 ` 2 0",
            "arrow 0 a 2 0|arrow 0 b 2 0", "coins 1 turns 0 lay 1", "arrows 0 a 2 0",
        ):
            self.bad(read_track, "places 1\n" + line + "\n", 2)
            self.bad(read_track, "places 1\narrow 0 a 2 0\n" + line + "\narrow 0 c 2 0\n", 3)
            self.bad(read_track, "places 1\narrow 0 a 2 0\n" + line + "\nwrong\n", 3)
        for line in ("", "places", "places ", "places  1", " places 1", "places 1 ", "places 1 1", "Places 1", "place 1",
                     "arrow 0 a 2 0", "places\t1", "places 1\t", "places a", "1", "none"):
            self.bad(read_track, line + "\narrow 0 a 2 0\n", 1)
            self.bad(read_track, line + "\n", 1)
        for number in NO_NUMBERS:
            self.bad(read_track, "places " + number + "\narrow 0 a 2 0\n", 1)
            for line in ("arrow {} a 2 0", "arrow 0 a {} 0", "arrow 0 a 2 {}"):
                self.bad(read_track, "places 1\n" + line.format(number) + "\n", 2)
        self.bad(read_track, "\nplaces 1\narrow 0 a 2 0\n", 1)
        self.bad(read_track, "places 1\n\narrow 0 a 2 0\n", 2)
        self.bad(read_track, "places 1\narrow 0 a 2 0\n\n", 3)
        self.bad(read_track, "arrow 0 a 2 0\nplaces 1\n", 1)
        self.bad(read_track, "places 1\narrow 0 a 2 0\nplaces 1\n", 3)
        self.bad(read_track, "\n", 1)

    def test_wrong_tracks(self):
        for text, part in (
            ("places 0\narrow 0 a 2 0\n", "places"), ("places 13\narrow 0 a 2 0\n", "places"),
            ("places " + FORTY + "\narrow 0 a 2 0\n", "places"), ("places 1\n", "arrows"), ("places 13\n", "places"),
            ("places 1\narrow 1 a 2 0\n", "arrows"), ("places 1\narrow 0 a 2 1\n", "arrows"),
            ("places 1\narrow 0 a 10 0\n", "arrows"), ("places 1\narrow 0 a " + FORTY + " 0\n", "arrows"),
            ("places 1\narrow 0 b 2 0\narrow 0 a 2 0\n", "arrows"), ("places 1\narrow 0 a 2 0\narrow 0 a 2 0\n", "arrows"),
            ("places 1\narrow 0 a 2 0\narrow 0 a 3 0\n", "twice"), ("places 2\narrow 0 a 2 0\n", "stuck"),
            ("places 2\narrow 0 a 2 0\narrow 0 a 2 1\n", "twice"),
            ("places 3\n" + "".join("arrow %d %s 2 0\n" % (place, letter) for place in range(3)
                                    for letter in "abcdefghijklmnopqrstu"), "arrows"),
        ):
            self.assertEqual(self.raises(BadTrack, read_track, text).part, part)
        # What is wrong with a line comes ahead of what is wrong with the track.
        self.bad(read_track, "places 0\narrow 0 a 2\n", 2)
        self.bad(read_track, "places 0\narrow 0 a 2 0", 2)

    def test_lines_of_tables(self):
        for line in (
            "", "None", "none ", " none", "none none", "coins 1 turns 0 lay", "coins 1 turns 0", "coins 1 turns 0 lay ",
            "coins 1 turns 0 lay 1 ", "coins 1 turns 0 lay  1", " coins 1 turns 0 lay 1", "coins  1 turns 0 lay 1",
            "coins 1 turn 0 lay 1", "coin 1 turns 0 lay 1", "coins 1 turns 0 lays 1", "turns 0 coins 1 lay 1",
            "coins 1 turns 0 lay -", "coins - turns 0 lay 1", "coins 1 turns 0 lay 1\t1", "coins\t1 turns 0 lay 1", "5", "-",
            "coins 1 turns 0 1", "1 turns 0 lay 1", "coins 1 turns 0 lay none", "lay 1", "places 1",
        ):
            self.bad(read_table, line + "\n", 1)
            self.bad(read_table, "none\n" + line + "\nnone\n", 2)
            self.bad(read_table, "none\ncoins 1 turns 0 lay 1\n" + line + "\nwrong\n", 3)
        for number in NO_NUMBERS:
            for line in ("coins {} turns 0 lay 1", "coins 1 turns {} lay 1", "coins 1 turns 0 lay {}", "coins 1 turns 0 lay 1 {}",
                         "coins 1 turns 0 lay {} 1"):
                self.bad(read_table, "none\n" + line.format(number) + "\n", 2)

    def test_lines_of_goals(self):
        for line in ("", " ", "5 ", " 5", "5  5", "5\t5", "-5", "--", "- ", "none", "5,5", "None", "5 x", "_", "5 -5"):
            self.bad(read_goals, line + "\n", 1)
            self.bad(read_goals, line + "\n5\n", 1)
            self.bad(read_goals, "5\n" + line + "\n", 2)
        for number in NO_NUMBERS:
            self.bad(read_goals, "5 " + number + "\n", 1)
        self.bad(read_goals, "5\n5\n", 2)
        self.bad(read_goals, "5\n\n", 2)
        self.bad(read_goals, "5\n5", 2)
        self.bad(read_goals, "\n", 1)
        self.bad(read_goals, "\n5\n", 1)


if __name__ == "__main__":
    unittest.main()
