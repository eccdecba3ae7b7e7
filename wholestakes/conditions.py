"""Tracks made by conditions on the rows."""

from wholestakes.checks import check_place
from wholestakes.errors import NoText
from wholestakes.kinds import is_text
from wholestakes.states import endless_track
from wholestakes.tracks import ways_of

MOST_TEXT = 20


def avoiding(track, place, text):
    """A track of the endless rows of a place in which a text does not come, None if there is none."""
    check_place(track, place)
    if not is_text(text) or not 1 <= len(text) <= MOST_TEXT:
        raise NoText()
    ways = ways_of(track)
    return endless_track((place, 0), lambda state: moves_past(ways[state[0]], text, state[1]))


def moves_past(moves, text, come):
    """The moves behind which the text has not come, when so many of its letters have come last."""
    found = []
    for letter, (pay, to) in moves.items():
        now = come_then(text, come, letter)
        if now < len(text):
            found.append((letter, pay, (to, now)))
    return found


def come_then(text, come, letter):
    """How many letters of the text, at most, have come last behind one more letter."""
    last = text[:come] + letter
    count = len(last)
    while not last.endswith(text[:count]):
        count -= 1
    return count


def together(one, place, other, goal):
    """A track of the endless rows that two places have in common, paying as in the one; None if there is none."""
    check_place(one, place)
    check_place(other, goal)
    ways = ways_of(one)
    others = ways_of(other)
    return endless_track((place, goal), lambda state: shared_moves(ways[state[0]], others[state[1]]))


def shared_moves(moves, others):
    return [(letter, pay, (to, others[letter][1])) for letter, (pay, to) in moves.items() if letter in others]


def by_turns(one, place, other, goal):
    """A track from whose place 0 the letters come from a place of the one and a place of the other by turns."""
    check_place(one, place)
    check_place(other, goal)
    ways = ways_of(one)
    others = ways_of(other)
    return endless_track((place, goal, 0), lambda state: turn_moves(ways, others, state))


def turn_moves(ways, others, state):
    here, there, turn = state
    if turn == 0:
        return [(letter, pay, (to, there, 1)) for letter, (pay, to) in ways[here].items()]
    return [(letter, pay, (here, to, 0)) for letter, (pay, to) in others[there].items()]
