"""Bettors and houses of strangers: they are asked what they lay, or what letter comes."""

from wholestakes.capping import holding_letter
from wholestakes.checks import check_coins, check_number, check_place, is_place
from wholestakes.errors import BadLetter, BadStake, Grows, NoCoins, NoPlace, NoRow, NoTable, TooMany
from wholestakes.growing import is_table
from wholestakes.holding import caps
from wholestakes.kinds import is_coins, is_letter
from wholestakes.laying import keep_any
from wholestakes.plain import check_hopeful
from wholestakes.plans import stake_toward
from wholestakes.reaching import levels_to, surroundings
from wholestakes.rows import MOST_ROWS, end_of, row_counts
from wholestakes.stakes import is_laid, paid_out
from wholestakes.tables import growing_coins
from wholestakes.tracks import ways_of

MOST_WORST = 12
MOST_HELD = 100
MOST_BEATEN = 2000


def given(bettor, text, coins, moves):
    """The stake that a bettor gives behind some letters."""
    stake = bettor(text, coins)
    if not is_laid(moves, coins, stake):
        raise BadStake(text)
    return stake


def behind(moves, coins, stake, letter):
    """The pair (coins, place) behind a letter that can come."""
    found = {come: (has, to) for come, has, to in paid_out(moves, coins, stake)}
    return found[letter]


def check_rows(track, place, length):
    if row_counts(ways_of(track), length)[length][place] > MOST_ROWS:
        raise TooMany(MOST_ROWS)


def played(track, place, coins, bettor, text):
    """The list of the pairs (coins, place) of a bettor ahead of a row and behind each of its letters."""
    check_place(track, place)
    check_coins(coins)
    ways = ways_of(track)
    if end_of(ways, place, text) is None:
        raise NoRow()
    found = [(coins, place)]
    for at, letter in enumerate(text):
        coins, place = behind(ways[place], coins, given(bettor, text[:at], coins, ways[place]), letter)
        found.append((coins, place))
    return found


def worst(track, place, coins, bettor, length):
    """The pair (coins, text) of the fewest coins of a bettor behind a row of a length, and the least such row."""
    check_place(track, place)
    check_coins(coins)
    check_number(length, MOST_WORST)
    check_rows(track, place, length)
    ways = ways_of(track)
    level = [("", coins, place)]
    for _ in range(length):
        ahead = []
        for text, has, here in level:
            paid = paid_out(ways[here], has, given(bettor, text, has, ways[here]))
            ahead.extend([(text + letter, more, to) for letter, more, to in paid])
        level = ahead
    return min([(has, text) for text, has, _ in level])


def held(track, place, coins, bettor, length):
    """A row of a length along which the caps hold a bettor down."""
    check_place(track, place)
    check_coins(coins)
    check_number(length, MOST_HELD)
    bounds = caps(track, place, coins)
    if bounds is None:
        raise Grows()
    ways = ways_of(track)
    text = ""
    for _ in range(length):
        stake = given(bettor, text, coins, ways[place])
        letter = holding_letter(ways[place], bounds, coins, stake)
        coins, place = behind(ways[place], coins, stake, letter)
        text += letter
    return text


def beaten(track, place, goal, house):
    """The list of the triples (stake, letter, coins) of a play from the least coins to the goal against a house."""
    check_hopeful(track, place)
    check_coins(goal)
    if goal > MOST_BEATEN:
        raise TooMany(MOST_BEATEN)
    ways, here = surroundings(track, place)
    coins = growing_coins(ways, list(range(len(ways))), keep_any)[here]
    levels = levels_to(ways, here, coins, goal)
    text = ""
    found = []
    while coins < goal:
        stake = stake_toward(ways, levels, here, coins)
        letter = house(text, coins, stake)
        if not is_letter(letter) or letter not in ways[here]:
            raise BadLetter(text)
        coins, here = behind(ways[here], coins, stake, letter)
        text += letter
        found.append((stake, letter, coins))
    return found


def tabled(track, place, table, coins, text):
    """The list of the pairs (coins, place) of a bettor who lays the stakes of a table along a row."""
    if not is_table(track, table):
        raise NoTable()
    if not is_place(track, place) or table[place] is None:
        raise NoPlace()
    if not is_coins(coins) or coins < table[place][0]:
        raise NoCoins()
    ways = ways_of(track)
    if end_of(ways, place, text) is None:
        raise NoRow()
    found = [(coins, place)]
    for letter in text:
        coins, place = behind(ways[place], coins, table[place][2], letter)
        found.append((coins, place))
    return found
