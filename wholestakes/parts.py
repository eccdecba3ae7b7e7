"""Fractions, and the least amounts, with parts of coins, with which goals are met."""

from math import gcd

from wholestakes.kinds import is_coins, is_integer
from wholestakes.laying import least_kept
from wholestakes.lots import WHOLE, reciprocal


def fraction(top, bottom):
    """The pair (top, bottom) in lowest terms."""
    common = gcd(top, bottom)
    return top // common, bottom // common


def is_fraction(thing):
    """Whether a thing is a fraction from 0 on."""
    if not isinstance(thing, tuple) or len(thing) != 2:
        return False
    top, bottom = thing
    return is_coins(top) and is_integer(bottom) and bottom > 0 and gcd(top, bottom) == 1


def added(fractions):
    """The sum of a list of fractions."""
    total = (0, 1)
    for top, bottom in fractions:
        total = fraction(total[0] * bottom + top * total[1], total[1] * bottom)
    return total


def least_parts(wants):
    """The least amount that is enough for what is wanted at a place, times WHOLE."""
    low = least_kept(wants)
    # The amounts go up or down evenly between two goals: the least one is where one of them is kept.
    bounds = [low] + [goal for _, goal in wants if goal > low]
    return min([parts_with(wants, kept) for kept in bounds])


def parts_with(wants, kept):
    """The amount that is enough if so much is kept, times WHOLE."""
    return WHOLE * kept + sum([reciprocal(pay) * (goal - kept) for pay, goal in wants if goal > kept])
