"""Caps, by which the house holds the bettor down for ever."""

from wholestakes.capping import caps_below, caps_toward, holds_down
from wholestakes.checks import check_coins, check_place
from wholestakes.goals import are_goals
from wholestakes.growing import least_coins
from wholestakes.laying import keep_any
from wholestakes.lots import greatest_full, hopeful
from wholestakes.tracks import ways_of


def is_caps(track, thing):
    """Whether a thing is caps."""
    return has_caps(track, thing) and holds_down(ways_of(track), thing, keep_any)


def has_caps(track, thing):
    """Whether a thing has coins or None for each place, and not None everywhere."""
    return are_goals(track, thing) and any([cap is not None for cap in thing])


def caps(track, place, coins):
    """Caps with so many coins or more for a place, None if there are none."""
    check_place(track, place)
    check_coins(coins)
    if place not in hopeful(track):
        return caps_toward(ways_of(track), greatest_full(track), coins)
    least = least_coins(track)
    return caps_below(least) if coins < least[place] else None
