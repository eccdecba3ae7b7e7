"""Like places: those with the same rows, the letters of which pay the same."""

from wholestakes.checks import check_place
from wholestakes.tracks import made_track, ways_of


def are_like(one, place, other, goal):
    """Whether a place of the one is like a place of the other."""
    return unlike_row(one, place, other, goal) is None


def unlike_row(one, place, other, goal):
    """The least of the shortest texts that tell two places apart, None if they are like."""
    check_place(one, place)
    check_place(other, goal)
    ways = ways_of(one)
    others = ways_of(other)
    seen = {(place, goal): True}
    # The texts of a level ascend, so that the first that tells two places apart is the least.
    level = [("", place, goal)]
    while level:
        ahead = []
        for text, here, there in level:
            telling = unlike_letter(ways[here], others[there])
            if telling is not None:
                return text + telling
            for letter, (_, to) in ways[here].items():
                pair = (to, others[there][letter][1])
                if pair not in seen:
                    seen[pair] = True
                    ahead.append((text + letter, *pair))
        level = ahead
    return None


def unlike_letter(moves, others):
    """The least letter that comes at just one of two places or pays otherwise there, None if there is none."""
    for letter in sorted([*moves, *others]):
        if letter not in moves or letter not in others or moves[letter][0] != others[letter][0]:
            return letter
    return None


def shrunk(track):
    """The track in which like places are one, numbered by the least of the places that are one."""
    ways = ways_of(track)
    marks = like_marks(ways)
    count = max(marks) + 1
    firsts = [marks.index(mark) for mark in range(count)]
    arrows = [
        (marks[place], letter, pay, marks[to])
        for place in firsts
        for letter, (pay, to) in ways[place].items()
    ]
    return made_track(count, arrows)


def like_marks(ways):
    """For each place a mark, the same just for like places; marks are numbered as they come."""
    marks = [0] * len(ways)
    count = 0
    while max(marks) + 1 > count:
        count = max(marks) + 1
        marks = numbered([sign_of(ways[place], marks, place) for place in range(len(ways))])
    return marks


def sign_of(moves, marks, place):
    """What places with one mark must have in common to keep one mark."""
    return (marks[place], tuple([(letter, pay, marks[to]) for letter, (pay, to) in moves.items()]))


def numbered(signs):
    """For each sign its number among the unlike ones, in the order in which they come first."""
    numbers = {}
    for sign in signs:
        if sign not in numbers:
            numbers[sign] = len(numbers)
    return [numbers[sign] for sign in signs]
