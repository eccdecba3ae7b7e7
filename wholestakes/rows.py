"""Rows: the texts whose letters can come one behind another, from a place on."""

from wholestakes.checks import check_number, check_place
from wholestakes.errors import NoNumber, NoRow, TooLong, TooMany
from wholestakes.kinds import is_text, is_within
from wholestakes.paths import nearest_letter, row_down, steps_to
from wholestakes.tracks import ways_of

MOST_LENGTH = 200
MOST_ROWS = 2000


def end_of(ways, place, thing):
    """The place to which a row leads, None for what is no row."""
    if not is_text(thing):
        return None
    for letter in thing:
        if letter not in ways[place]:
            return None
        _, place = ways[place][letter]
    return place


def row_counts(ways, length):
    """For each number of letters up to a length, a list with the number of such rows of each place."""
    counts = [[1] * len(ways)]
    for at in range(length):
        counts.append([sum([counts[at][to] for _, to in moves.values()]) for moves in ways])
    return counts


def is_row(track, place, thing):
    """Whether a thing is a row of a place."""
    check_place(track, place)
    return end_of(ways_of(track), place, thing) is not None


def led(track, place, text):
    """The place to which a row leads."""
    check_place(track, place)
    end = end_of(ways_of(track), place, text)
    if end is None:
        raise NoRow()
    return end


def many_rows(track, place, length):
    """The number of the rows of a length."""
    check_place(track, place)
    check_number(length, MOST_LENGTH)
    return row_counts(ways_of(track), length)[length][place]


def rows(track, place, length):
    """The ascending list of the rows of a length."""
    if many_rows(track, place, length) > MOST_ROWS:
        raise TooMany(MOST_ROWS)
    ways = ways_of(track)
    # No place is without a letter, so that shorter rows are never more than these.
    found = [("", place)]
    for _ in range(length):
        found = [(text + letter, to) for text, here in found for letter, (_, to) in ways[here].items()]
    return [text for text, _ in found]


def row_at(track, place, length, number):
    """The row with a number among those of a length."""
    check_place(track, place)
    check_number(length, MOST_LENGTH)
    ways = ways_of(track)
    counts = row_counts(ways, length)
    if not is_within(number, 0, counts[length][place] - 1):
        raise NoNumber()
    text = ""
    for rest in range(length - 1, -1, -1):
        letter, number = letter_at(ways[place], counts[rest], number)
        text += letter
        _, place = ways[place][letter]
    return text


def letter_at(moves, counts, number):
    """The first letter of the row with a number, and its number among those with this letter."""
    for letter, (_, to) in moves.items():
        if number < counts[to]:
            return letter, number
        number -= counts[to]
    return None


def row_number(track, place, text):
    """The number of a row among those of its length."""
    led(track, place, text)
    if len(text) > MOST_LENGTH:
        raise TooLong(MOST_LENGTH)
    ways = ways_of(track)
    counts = row_counts(ways, len(text))
    number = 0
    for at, letter in enumerate(text):
        rest = len(text) - 1 - at
        number += sum([counts[rest][to] for other, (_, to) in ways[place].items() if other < letter])
        _, place = ways[place][letter]
    return number


def round_row(track, place):
    """The least of the shortest rows, not empty, that lead back to a place, None if there is none."""
    check_place(track, place)
    ways = ways_of(track)
    steps = steps_to(ways, (place,))
    first = nearest_letter(ways[place], steps)
    if first is None:
        return None
    _, to = ways[place][first]
    return first + row_down(ways, to, steps)
