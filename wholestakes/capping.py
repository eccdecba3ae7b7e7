"""Caps: judged and found for a way to keep."""

from wholestakes.paths import steps_to
from wholestakes.stakes import paid_out
from wholestakes.tracks import MOST_PAY


def holds_down(ways, caps, keep):
    """Whether at no place with a cap so many coins are enough to have more than the next cap behind each letter."""
    for place, moves in enumerate(ways):
        if caps[place] is not None:
            # Letters to places without a cap are left out: with a fee, nothing being wanted is less than no coins.
            enough, _ = keep([(pay, caps[to] + 1) for pay, to in moves.values() if caps[to] is not None])
            if enough <= caps[place]:
                return False
    return True


def holding_letter(moves, caps, coins, stake):
    """The first letter behind which a bettor with such coins and stake has at most the cap, None if there is none."""
    for letter, behind, to in paid_out(moves, coins, stake):
        if caps[to] is not None and behind <= caps[to]:
            return letter
    return None


def caps_below(least):
    """The caps that are one coin less than the least coins."""
    return tuple([None if coins is None else coins - 1 for coins in least])


def caps_toward(ways, full, coins):
    """The caps by which the house goes to a full lot and stays there, with these coins or more at each place from which
    it can be come to.
    """
    steps = steps_to(ways, full)
    caps = [None] * len(ways)
    cap = coins
    # Whatever is laid on it, a letter gives no more than the greatest pay for each coin.
    for count in range(max([0] + [step for step in steps if step is not None]), -1, -1):
        for place in range(len(ways)):
            if steps[place] == count:
                caps[place] = cap
        cap *= MOST_PAY
    return tuple(caps)
