"""From how many coins on the bettor grows, and the tables by which it does."""

from wholestakes.kinds import is_coins
from wholestakes.laying import keep_any
from wholestakes.lots import hopeful
from wholestakes.reaching import surroundings
from wholestakes.stakes import is_laid, paid_out
from wholestakes.tables import are_enough, growing_coins, table_for, turns_for
from wholestakes.tracks import ways_of


def least_coins(track):
    """For each place the least coins with which the bettor grows from there, or None."""
    return tuple(growing_coins(ways_of(track), hopeful(track), keep_any))


def table(track):
    """A table with the least coins for each hopeful place."""
    return table_for(ways_of(track), least_coins(track), keep_any)


def fewest_turns(track):
    """For each hopeful place the least number of letters to have more than the least coins there."""
    return tuple(turns_for(ways_of(track), least_coins(track), keep_any))


def grows(track, place, coins):
    """Whether the bettor grows from a place with so many coins."""
    if place not in hopeful(track):
        return False
    ways, at = surroundings(track, place)
    return are_enough(ways, at, coins, keep_any)


def is_table(track, thing):
    """Whether a thing is a table."""
    return is_table_less(track, thing, 0)


def is_table_less(track, thing, fee):
    """Whether a thing is a table if so many coins are given away behind each letter."""
    if not isinstance(thing, tuple) or len(thing) != track.places:
        return False
    entries = [(moves, entry) for moves, entry in zip(ways_of(track), thing) if entry is not None]
    # Entries can be looked into only once each of them is known to be one.
    if not all([is_entry(moves, entry) for moves, entry in entries]):
        return False
    return all([leads_on(thing, moves, entry, fee) for moves, entry in entries])


def is_entry(moves, thing):
    """Whether a thing is a triple (coins, turns, stake) for such moves."""
    if not isinstance(thing, tuple) or len(thing) != 3:
        return False
    coins, turns, stake = thing
    return is_coins(coins) and is_coins(turns) and is_laid(moves, coins, stake)


def leads_on(entries, moves, entry, fee):
    """Whether each letter leads to a triple with fewer coins than are left, or just as many and fewer turns."""
    coins, turns, stake = entry
    for _, behind, to in paid_out(moves, coins, stake):
        if entries[to] is None:
            return False
        wanted, later, _ = entries[to]
        left = behind - fee
        if left < wanted or (left == wanted and later >= turns):
            return False
    return True
