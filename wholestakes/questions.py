"""What can be asked of a track line by line: each question tells what a string answers it."""

from wholestakes.goals import least_for
from wholestakes.growing import least_coins
from wholestakes.limits import least_coins_within, least_limit
from wholestakes.lots import hopeful, ranks
from wholestakes.times import sure_after
from wholestakes.words import figures, goal_of, is_goal, is_number, words_of


def hopeful_told(track):
    return words_of(hopeful(track)) or "none"


def ranks_told(track):
    return words_of(ranks(track))


def least_told(track):
    return words_of(least_coins(track))


def within_told(track, limit):
    return words_of(least_coins_within(track, limit))


def for_told(track, place, goals):
    return figures(least_for(track, place, goals))


def sure_told(track, place, coins, length):
    return figures(sure_after(track, place, coins, length))


def limit_told(track, place):
    found = least_limit(track, place)
    return "none" if found is None else figures(found)


# For each first word what kinds of words stand behind the name, and what answers.
QUESTIONS = {
    "hopeful": ((), hopeful_told),
    "ranks": ((), ranks_told),
    "least": ((), least_told),
    "within": (("number",), within_told),
    "for": (("number", "goals"), for_told),
    "sure": (("number", "number", "number"), sure_told),
    "limit": (("number",), limit_told),
}


def is_value(kind, word):
    """Whether a word is of a kind."""
    if kind == "number":
        return is_number(word)
    return all([is_goal(part) for part in word.split(",")])


def value_of(kind, word):
    """What a word of a kind tells."""
    if kind == "number":
        return int(word)
    return tuple([goal_of(part) for part in word.split(",")])
