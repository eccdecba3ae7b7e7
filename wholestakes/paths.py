"""The least of the shortest rows to some places."""


def steps_to(ways, goals):
    """For each place the least number of letters to one of the goals, None where there is no way."""
    before = [[] for _ in range(len(ways))]
    for here in range(len(ways)):
        for _, to in ways[here].values():
            before[to].append(here)
    steps = [None] * len(ways)
    level = list(goals)
    count = 0
    while level:
        behind = []
        for place in level:
            if steps[place] is None:
                steps[place] = count
                behind.extend(before[place])
        level = behind
        count += 1
    return steps


def nearest_letter(moves, steps):
    """The least letter behind which the fewest steps are left, None if none leads on to a goal."""
    best = None
    fewest = None
    for letter, (_, to) in moves.items():
        if steps[to] is not None and (best is None or steps[to] < fewest):
            best = letter
            fewest = steps[to]
    return best


def row_down(ways, place, steps):
    """The least of the shortest rows from a place with steps to a goal."""
    text = ""
    while steps[place] > 0:
        letter = nearest_letter(ways[place], steps)
        text += letter
        _, place = ways[place][letter]
    return text
