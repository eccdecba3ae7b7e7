"""Bettors who know the row: what they have behind the worst and the best rows for them."""

from wholestakes.checks import check_coins, check_number, check_place
from wholestakes.rows import MOST_LENGTH
from wholestakes.tracks import ways_of


def gain(pay):
    """By how much a letter multiplies: who knows the row lays nothing where the pay is not above one."""
    return max(pay, 1)


def best_gains(ways, length, rich):
    """For each number of letters up to a length, a list with the greatest (rich) or least gain of each place."""
    gains = [[1] * len(ways)]
    for at in range(length):
        gains.append([best_gain(moves, gains[at], rich) for moves in ways])
    return gains


def best_gain(moves, behind, rich):
    found = [gain(pay) * behind[to] for pay, to in moves.values()]
    return max(found) if rich else min(found)


def best_row(track, place, length, rich):
    """The least of the rows of a length with the greatest (rich) or the least gain."""
    check_place(track, place)
    check_number(length, MOST_LENGTH)
    ways = ways_of(track)
    gains = best_gains(ways, length, rich)
    text = ""
    for rest in range(length - 1, -1, -1):
        letter = letter_with(ways[place], gains[rest], gains[rest + 1][place])
        text += letter
        _, place = ways[place][letter]
    return text


def letter_with(moves, behind, wanted):
    """The least letter that brings a gain together with the gains behind it."""
    for letter, (pay, to) in moves.items():
        if gain(pay) * behind[to] == wanted:
            return letter
    return None


def knowing_after(track, place, coins, length):
    """The least coins that a bettor who knows the row has behind some row of a length."""
    check_place(track, place)
    check_coins(coins)
    check_number(length, MOST_LENGTH)
    return coins * best_gains(ways_of(track), length, False)[length][place]


def poorest_row(track, place, length):
    """The least of the rows of a length that multiply the coins of such a bettor by the least."""
    return best_row(track, place, length, False)


def richest_row(track, place, length):
    """The least of the rows of a length that multiply the coins of such a bettor by the most."""
    return best_row(track, place, length, True)
