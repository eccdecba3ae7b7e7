"""Purses that are led live."""

from wholestakes.checks import check_coins, check_place
from wholestakes.errors import NoLetter, NoStake, NothingDone, TooFew
from wholestakes.growing import grows, table
from wholestakes.making import part
from wholestakes.plain import check_hopeful
from wholestakes.stakes import is_laid, paid_out
from wholestakes.tracks import reached, ways_of


class Purse:
    """Coins at a place of a track, which are laid on letters, and changed by the letters that come."""

    def __init__(self, track, place, coins):
        check_place(track, place)
        check_coins(coins)
        self._track = track
        # What was ahead of each deed that can be taken back, and last what is now: coins, place, text, stake.
        self._states = [(coins, place, "", nothing_laid(track, place))]

    def coins(self):
        """What it has, what is laid among it."""
        return self._states[-1][0]

    def place(self):
        """Where it is."""
        return self._states[-1][1]

    def text(self):
        """The letters so far."""
        return self._states[-1][2]

    def laid(self):
        """The stake that is laid."""
        return self._states[-1][3]

    def lay(self, stake):
        """Lays a stake in the place of what was laid."""
        coins, place, text, _ = self._states[-1]
        if not is_laid(ways_of(self._track)[place], coins, stake):
            raise NoStake()
        self._states.append((coins, place, text, stake))

    def come(self, letter):
        """Lets a letter come, and returns the coins."""
        coins, place, text, stake = self._states[-1]
        for found, behind, to in paid_out(ways_of(self._track)[place], coins, stake):
            if found == letter:
                self._states.append((behind, to, text + letter, nothing_laid(self._track, to)))
                return behind
        raise NoLetter()

    def grows(self):
        """Whether the bettor grows from here, nothing being laid yet."""
        return grows(self._track, self.place(), self.coins())

    def advice(self):
        """A stake with which the bettor grows on whatever letter comes."""
        check_hopeful(self._track, self.place())
        here = part(self._track, self.place())
        least, _, stake = table(here)[reached(self._track, self.place()).index(self.place())]
        if self.coins() < least:
            raise TooFew(least)
        return stake

    def back(self):
        """Takes back the last deed."""
        if self.depth() == 0:
            raise NothingDone()
        self._states.pop()

    def depth(self):
        """How many deeds can be taken back."""
        return len(self._states) - 1

    def copy(self):
        """Another purse that goes on apart."""
        other = Purse(self._track, self.place(), self.coins())
        other._states = list(self._states)
        return other

    def trying(self, action):
        """What an action with the purse returns; all that it does to the purse is put back."""
        states = list(self._states)
        try:
            return action(self)
        finally:
            self._states = states


def nothing_laid(track, place):
    return (0,) * len(ways_of(track)[place])
