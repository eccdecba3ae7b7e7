"""Goals: the least coins, in whole coins and in parts, with which a stake meets them."""

from wholestakes.checks import check_coins, check_place
from wholestakes.errors import NoGoals
from wholestakes.kinds import is_coins
from wholestakes.laying import keep_any, laid_on, wanted
from wholestakes.lots import WHOLE
from wholestakes.parts import fraction, least_parts
from wholestakes.tracks import ways_of


def are_goals(track, thing):
    """Whether a thing has coins or None for each place."""
    if not isinstance(thing, tuple) or len(thing) != track.places:
        return False
    return all([goal is None or is_coins(goal) for goal in thing])


def check_goals(track, goals):
    if not are_goals(track, goals):
        raise NoGoals()


def least_for(track, place, goals):
    """The least number of coins with which some stake meets goals."""
    check_place(track, place)
    check_goals(track, goals)
    coins, _ = keep_any(wanted(ways_of(track)[place], goals))
    return coins


def stake_for(track, place, coins, goals):
    """A stake that meets goals with so many coins, None if there is none."""
    check_place(track, place)
    check_coins(coins)
    check_goals(track, goals)
    wants = wanted(ways_of(track)[place], goals)
    least, kept = keep_any(wants)
    return tuple(laid_on(wants, kept)) if least <= coins else None


def parts_for(track, place, goals):
    """The least amount, a fraction, with which goals are met if parts of coins can be laid and kept."""
    check_place(track, place)
    check_goals(track, goals)
    return fraction(least_parts(wanted(ways_of(track)[place], goals)), WHOLE)
