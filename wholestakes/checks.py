"""Arguments that are looked at by many functions: each raises its error unless the argument is right."""

from wholestakes.errors import NoCoins, NoLimit, NoNumber, NoPlace
from wholestakes.kinds import is_coins, is_within

MOST_LIMIT = 100


def is_place(track, thing):
    return is_within(thing, 0, track.places - 1)


def check_place(track, place):
    if not is_place(track, place):
        raise NoPlace()


def check_coins(coins):
    if not is_coins(coins):
        raise NoCoins()


def check_number(number, most):
    if not is_within(number, 0, most):
        raise NoNumber()


def check_limit(limit):
    if not is_within(limit, 0, MOST_LIMIT):
        raise NoLimit()
