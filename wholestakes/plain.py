"""The plain plan, which goes by ranks."""

from wholestakes.checks import check_coins, check_place
from wholestakes.errors import NotHopeful
from wholestakes.lots import WHOLE, hopeful, ranks, reciprocal
from wholestakes.tracks import reached, ways_of


def plain_stake(track, place, lost):
    """The stake of the plain plan at a place, when so many coins are lost."""
    check_hopeful(track, place)
    check_coins(lost)
    return plain_at(ways_of(track)[place], ranks(track), place, lost)


def check_hopeful(track, place):
    check_place(track, place)
    if place not in hopeful(track):
        raise NotHopeful()


def plain_at(moves, ranking, place, lost):
    won = [ranking[to] >= ranking[place] for _, to in moves.values()]
    laid = fewest_laid([pay for at, (pay, _) in enumerate(moves.values()) if won[at]], lost)
    stake = [-(-(lost + laid + 1) // pay) if won[at] else 0 for at, (pay, _) in enumerate(moves.values())]
    return tuple(stake)


def fewest_laid(pays, lost):
    """The fewest coins laid such that each of these pays brings one coin more than what is lost and laid."""
    share = sum([reciprocal(pay) for pay in pays])
    # It cannot be less than with parts of coins; from there on it is raised until it is enough.
    laid = -(-share * (lost + 1) // (WHOLE - share))
    enough = sum([-(-(lost + laid + 1) // pay) for pay in pays])
    while enough > laid:
        laid = enough
        enough = sum([-(-(lost + laid + 1) // pay) for pay in pays])
    return laid


def plain_coins(track, place):
    """The greatest number of coins that the plain plan can have lost and laid together, from a place on."""
    check_hopeful(track, place)
    ways = ways_of(track)
    ranking = ranks(track)
    near = sorted([(-ranking[here], here) for here in reached(track, place)])
    lost = [0] * track.places
    most = 0
    # Who has lost more lays more: of all ways to a place only that with the most coins lost counts.
    for _, here in near:
        whole = lost[here] + sum(plain_at(ways[here], ranking, here, lost[here]))
        most = max(most, whole)
        for _, to in ways[here].values():
            if ranking[to] < ranking[here]:
                lost[to] = max(lost[to], whole)
    return most
