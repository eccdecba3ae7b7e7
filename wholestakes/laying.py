"""How to lay at one place: what is kept and what is laid on each letter, such that what is wanted is there.

What is WANTED at a place is a list with a pair (pay, goal) for each letter that can come there, ascending: so many
coins are to be there behind this letter.
"""

from math import lcm

from wholestakes.lots import WHOLE, reciprocal


def wanted(moves, goals):
    """What is wanted at a place with such moves, for goals with coins or None for each place."""
    return [(pay, 0 if goals[to] is None else goals[to]) for pay, to in moves.values()]


def laid_on(wants, kept):
    """The fewest coins on each letter, if so many are kept."""
    return [0 if goal <= kept else -((kept - goal) // pay) for pay, goal in wants]


def coins_with(wants, kept):
    return kept + sum(laid_on(wants, kept))


def least_kept(wants):
    """The least that has to be kept: a coin laid on a letter that pays 0 or 1 is no better than one kept."""
    return max([0] + [goal for pay, goal in wants if pay <= 1])


def keep_any(wants):
    """The pair (coins, kept) of the least coins that are enough, and what of them is kept then."""
    return keep_from(wants, least_kept(wants))


def keep_within(wants, limit):
    """The same, if at most a limit may be laid."""
    low = least_kept(wants)
    high = max([low] + [goal for _, goal in wants])
    # The more is kept, the less has to be laid.
    while low < high:
        half = (low + high) // 2
        if sum(laid_on(wants, half)) <= limit:
            high = half
        else:
            low = half + 1
    return keep_from(wants, low)


def keep_from(wants, low):
    """The pair (coins, kept) with the least coins, if so many or more are kept."""
    above = [(pay, goal) for pay, goal in wants if goal > low]
    # On one letter alone no coin more is won by keeping more.
    if len(above) < 2:
        return coins_with(above, low), low
    bounds = [low] + sorted({goal for _, goal in above})
    best = (coins_with(above, low), low)
    for at in range(len(bounds) - 1):
        rising = [(pay, goal) for pay, goal in above if goal > bounds[at]]
        best = best_between(rising, bounds[at], bounds[at + 1], best)
    return best


def best_between(wants, low, high, best):
    """The better one of a pair (coins, kept) and the best one for what is kept from low to high.

    No goal lies between these two. Told in parts of a coin, the coins go up or down evenly from low to high; whole
    coins are never fewer, and what they are more comes again with each period of the pays.
    """
    tilt = WHOLE - sum([reciprocal(pay) for pay, _ in wants])
    start, step = (low, 1) if tilt >= 0 else (high, -1)
    parts = WHOLE * start + sum([reciprocal(pay) * (goal - start) for pay, goal in wants])
    for at in range(min(high - low + 1, period(wants))):
        if parts + at * abs(tilt) > WHOLE * (best[0] - 1):
            return best
        kept = start + step * at
        coins = coins_with(wants, kept)
        if coins < best[0]:
            best = (coins, kept)
    return best


def period(wants):
    """After how many coins kept what is laid on all letters comes again."""
    found = 1
    for pay, _ in wants:
        found = lcm(found, pay)
    return found
