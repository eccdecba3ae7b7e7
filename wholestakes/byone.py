"""Growing with coins on at most one letter at a time."""

from wholestakes.capping import caps_below, caps_toward, holds_down
from wholestakes.checks import check_coins, check_place
from wholestakes.growing import is_table
from wholestakes.holding import has_caps
from wholestakes.laying import coins_with
from wholestakes.lots import is_lot
from wholestakes.paths import steps_to
from wholestakes.tables import growing_coins, table_for
from wholestakes.tracks import ways_of


def keep_by_one(wants):
    """The pair (coins, kept) of the least coins that are enough by one letter, and what of them is kept then."""
    goals = sorted([goal for _, goal in wants])
    kept = goals[-2] if len(goals) > 1 else 0
    # A coin laid on a letter that pays 0 or 1 is no better than one kept.
    if any([goal == goals[-1] and pay <= 1 for pay, goal in wants]):
        kept = goals[-1]
    return coins_with(wants, kept), kept


def is_full_by_one(track, thing):
    """Whether a thing is a lot that is full by one."""
    return is_lot(track, thing) and len(short_by_one(ways_of(track), {place: True for place in thing})) == 0


def short_by_one(ways, lot):
    """The places of a lot, a dict, at which all letters that lead back into it can be laid on by one."""
    short = []
    for place in lot:
        back = [pay for pay, to in ways[place].values() if to in lot]
        if len(back) == 0 or (len(back) == 1 and back[0] > 1):
            short.append(place)
    return short


def greatest_by_one(ways):
    """The list of the places of the greatest lot that is full by one."""
    lot = {place: True for place in range(len(ways))}
    short = short_by_one(ways, lot)
    while short:
        for place in short:
            del lot[place]
        short = short_by_one(ways, lot)
    return list(lot)


def hopeful_by_one(track):
    """The ascending tuple of the places from which no place of a lot that is full by one can be come to."""
    ways = ways_of(track)
    steps = steps_to(ways, greatest_by_one(ways))
    return tuple([place for place in range(track.places) if steps[place] is None])


def least_by_one(track):
    """For each place the least coins with which the bettor grows by one letter at a time, or None."""
    return tuple(growing_coins(ways_of(track), hopeful_by_one(track), keep_by_one))


def table_by_one(track):
    """A table with these coins, all stakes of which lay on at most one letter."""
    return table_for(ways_of(track), least_by_one(track), keep_by_one)


def is_table_by_one(track, thing):
    """Whether a thing is a table all stakes of which lay on at most one letter."""
    return is_table(track, thing) and all([entry is None or is_by_one(entry[2]) for entry in thing])


def is_by_one(stake):
    return len([laid for laid in stake if laid > 0]) <= 1


def is_caps_by_one(track, thing):
    """Whether a thing is caps if coins are laid on at most one letter."""
    return has_caps(track, thing) and holds_down(ways_of(track), thing, keep_by_one)


def caps_by_one(track, place, coins):
    """Such caps with so many coins or more for a place, None if there are none."""
    check_place(track, place)
    check_coins(coins)
    if place not in hopeful_by_one(track):
        ways = ways_of(track)
        return caps_toward(ways, greatest_by_one(ways), coins)
    least = least_by_one(track)
    return caps_below(least) if coins < least[place] else None
