"""Tables of least coins: found for a way to keep, and built."""

from wholestakes.laying import laid_on, wanted
from wholestakes.reaching import settled


def growing_coins(ways, places, keep):
    """For each of some places the least coins with which the bettor grows, None for the others.

    It has to grow from each of these places with some coins, and no letter may lead from them to others.
    """
    inside = {place: True for place in places}
    goal = 2
    while True:
        coins = settled(ways, [goal if place in inside else None for place in range(len(ways))], keep)
        # With fewer coins than the goal at each place it surely comes to have more than at first: so it grows.
        if all([coins[place] < goal for place in places]):
            return coins
        goal *= 2


def are_enough(ways, place, coins, keep):
    """Whether the bettor grows from a place with so many coins; it has to grow from each place with some."""
    goal = 2
    # The least coins of other places may be far more: they need not be found to tell that these are too few.
    while True:
        found = settled(ways, [goal] * len(ways), keep)
        if found[place] > coins:
            return False
        if max(found) < goal:
            return True
        goal *= 2


def turns_for(ways, coins, keep):
    """For each place the least number of letters to have more than its coins where the bettor is then."""
    turns = [None] * len(ways)
    left = [place for place in range(len(ways)) if coins[place] is not None]
    turn = 1
    while left:
        goals = goals_by_turns(coins, turns, turn)
        for place in left:
            enough, _ = keep(wanted(ways[place], goals))
            if enough <= coins[place]:
                turns[place] = turn
        left = [place for place in left if turns[place] is None]
        turn += 1
    return turns


def goals_by_turns(coins, turns, turn):
    """What is wanted ahead of a letter with so many turns left: one coin more where there are not fewer turns."""
    goals = []
    for place, least in enumerate(coins):
        if least is None or (turns[place] is not None and turns[place] < turn):
            goals.append(least)
        else:
            goals.append(least + 1)
    return goals


def table_for(ways, coins, keep):
    """The table with these coins, in which the turns are as few as can be."""
    turns = turns_for(ways, coins, keep)
    entries = []
    for place, moves in enumerate(ways):
        if coins[place] is None:
            entries.append(None)
        else:
            wants = wanted(moves, goals_by_turns(coins, turns, turns[place]))
            _, kept = keep(wants)
            entries.append((coins[place], turns[place], tuple(laid_on(wants, kept))))
    return tuple(entries)
