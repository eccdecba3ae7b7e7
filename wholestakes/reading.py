"""Texts of tracks, tables and goals are read."""

from wholestakes.errors import BadText
from wholestakes.kinds import is_letter
from wholestakes.tracks import Track
from wholestakes.words import goal_of, is_goal, is_number


def lines_of(text, fits):
    """The list of the lines of a text, each as the list of its words.

    Fits tells whether a line, of which it gets the number and the words, has a form that can stand there.
    """
    if not isinstance(text, str):
        raise BadText(0)
    *closed, rest = text.split("\n")
    lines = [line.split(" ") for line in closed]
    for number, words in enumerate(lines, start=1):
        if not fits(number, words):
            raise BadText(number)
    if rest != "" or len(lines) == 0:
        raise BadText(len(lines) + 1)
    return lines


def read_track(text):
    """The track of a text."""
    first, *others = lines_of(text, is_track_line)
    arrows = [(int(start), letter, int(pay), int(to)) for _, start, letter, pay, to in others]
    return Track(int(first[1]), tuple(arrows))


def is_track_line(number, words):
    if number == 1:
        return len(words) == 2 and words[0] == "places" and is_number(words[1])
    if len(words) != 5 or words[0] != "arrow" or not is_letter(words[2]):
        return False
    return all([is_number(word) for word in (words[1], words[3], words[4])])


def read_table(text):
    """What a text tells as a table: a tuple of None and triples (coins, turns, stake)."""
    return tuple([entry_of(words) for words in lines_of(text, is_entry_line)])


def is_entry_line(_, words):
    if words == ["none"]:
        return True
    if len(words) < 6 or words[0] != "coins" or words[2] != "turns" or words[4] != "lay":
        return False
    return all([is_number(word) for word in (words[1], words[3], *words[5:])])


def entry_of(words):
    if words == ["none"]:
        return None
    return int(words[1]), int(words[3]), tuple([int(word) for word in words[5:]])


def read_goals(text):
    """What a text tells as goals: a tuple of coins and None."""
    return tuple([goal_of(word) for word in lines_of(text, is_goals_line)[0]])


def is_goals_line(number, words):
    return number == 1 and all([is_goal(word) for word in words])
