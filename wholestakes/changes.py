"""How few pays must change such that a place is hopeful, or is not."""

from itertools import combinations

from wholestakes.checks import check_number, check_place
from wholestakes.errors import TooMany
from wholestakes.lots import hopeful
from wholestakes.tracks import MOST_PAY, made_track

MOST_CHANGED = 12
MOST_STEPS = 4


def shut(track, place):
    """The fewest arrows (place, letter), the least of such tuples, that must pay 0 for the place not to be hopeful."""
    return fewest_arrows(track, place, 0, False)


def opened(track, place):
    """The fewest arrows (place, letter) that must pay 9 for the place to be hopeful, None if all are not enough."""
    return fewest_arrows(track, place, MOST_PAY, True)


def raised(track, place, most):
    """The fewest coins by which pays must be raised for the place to be hopeful, None if these are more than most."""
    return fewest_steps(track, place, most, 1, True)


def lowered(track, place, most):
    """The fewest coins by which pays must be lowered for it not to be hopeful, None if these are more than most."""
    return fewest_steps(track, place, most, -1, False)


def check_arrows(track):
    if len(track.arrows) > MOST_CHANGED:
        raise TooMany(MOST_CHANGED)


def is_hopeful_with(track, place, pays):
    """Whether the place is hopeful if the arrows have these pays."""
    arrows = [(start, letter, pay, to) for (start, letter, _, to), pay in zip(track.arrows, pays)]
    return place in hopeful(made_track(track.places, arrows))


def pays_of(track):
    return [pay for _, _, pay, _ in track.arrows]


def fewest_arrows(track, place, pay, aim):
    """The first of the shortest tuples of arrows with which, if they have this pay, the place is hopeful or not."""
    check_place(track, place)
    check_arrows(track)
    pays = pays_of(track)
    for count in range(len(pays) + 1):
        for chosen in combinations(range(len(pays)), count):
            if is_hopeful_with(track, place, [pay if at in chosen else old for at, old in enumerate(pays)]) == aim:
                return tuple([track.arrows[at][:2] for at in chosen])
    return None


def fewest_steps(track, place, most, step, aim):
    """The fewest steps of pays, all together, with which the place is hopeful or not, None if more than most."""
    check_place(track, place)
    check_number(most, MOST_STEPS)
    check_arrows(track)
    level = {tuple(pays_of(track)): True}
    for count in range(most + 1):
        if any([is_hopeful_with(track, place, pays) == aim for pays in level]):
            return count
        level = {changed: True for pays in level for changed in stepped(pays, step)}
    return None


def stepped(pays, step):
    """The list of the pays of which one is changed by a step."""
    found = []
    for at, pay in enumerate(pays):
        if 0 <= pay + step <= MOST_PAY:
            found.append((*pays[:at], pay + step, *pays[at + 1:]))
    return found
