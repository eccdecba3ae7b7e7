"""Amounts of parts of coins: fractions, and the least amounts with which goals are met."""

from math import gcd

from wholestakes.laying import least_kept
from wholestakes.lots import WHOLE, reciprocal


def fraction(top, bottom):
    """The pair (top, bottom) in lowest terms."""
    common = gcd(top, bottom)
    return top // common, bottom // common


def least_parts(wants):
    """The least amount that is enough for what is wanted at a place, times WHOLE."""
    low = least_kept(wants)
    # The amounts go up or down evenly between two goals: the least one is where one of them is kept.
    bounds = [low] + [goal for _, goal in wants if goal > low]
    return min([parts_with(wants, kept) for kept in bounds])


def parts_with(wants, kept):
    """The amount that is enough if so much is kept, times WHOLE."""
    return WHOLE * kept + sum([reciprocal(pay) * (goal - kept) for pay, goal in wants if goal > kept])
