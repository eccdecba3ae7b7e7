"""Tracks whose places are states that are found step by step; a move is a triple (letter, pay, state)."""

from wholestakes.tracks import made_track


def explored(start, step):
    """A dict from each state that can be come to, the start first, to its moves, which step tells."""
    moves = {}
    seen = {start: True}
    level = [start]
    while level:
        ahead = []
        for state in level:
            found = step(state)
            moves[state] = found
            for _, _, to in found:
                if to not in seen:
                    seen[to] = True
                    ahead.append(to)
        level = ahead
    return moves


def lasting(moves):
    """The moves without the states that cannot be gone on from for ever."""
    before = {state: [] for state in moves}
    left = {state: len(moves[state]) for state in moves}
    for state, found in moves.items():
        for _, _, to in found:
            before[to].append(state)
    ended = [state for state in moves if left[state] == 0]
    while ended:
        gone = ended.pop()
        for state in before[gone]:
            left[state] -= 1
            if left[state] == 0:
                ended.append(state)
    return {
        state: [move for move in found if left[move[2]] > 0]
        for state, found in moves.items()
        if left[state] > 0
    }


def endless_track(start, step):
    """The track of the endless rows from a start, which is its place 0; None if there is none."""
    kept = lasting(explored(start, step))
    if start not in kept:
        return None
    moves = explored(start, lambda state: kept[state])
    numbers = {state: number for number, state in enumerate(moves)}
    arrows = [
        (numbers[state], letter, pay, numbers[to])
        for state, found in moves.items()
        for letter, pay, to in found
    ]
    return made_track(len(numbers), arrows)
