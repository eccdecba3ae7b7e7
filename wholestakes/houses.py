"""Houses that hold a bettor down, led live."""

from wholestakes.capping import holding_letter
from wholestakes.errors import Grows, NoStake, NothingDone
from wholestakes.holding import caps
from wholestakes.stakes import is_laid, outcome
from wholestakes.tracks import ways_of


class House:
    """What names the letters against a bettor that does not grow, by caps."""

    def __init__(self, track, place, coins):
        found = caps(track, place, coins)
        if found is None:
            raise Grows()
        self._track = track
        self._caps = found
        # What was ahead of each answer that can be taken back, and last what is now: coins, place, text.
        self._states = [(coins, place, "")]

    def answer(self, stake):
        """Lets a letter come, and returns it: the bettor who lays the stake does not grow from there on."""
        coins, place, text = self._states[-1]
        moves = ways_of(self._track)[place]
        if not is_laid(moves, coins, stake):
            raise NoStake()
        letter = holding_letter(moves, self._caps, coins, stake)
        behind, to = outcome(self._track, place, coins, stake, letter)
        self._states.append((behind, to, text + letter))
        return letter

    def caps(self):
        """The caps by which it goes."""
        return self._caps

    def coins(self):
        """What the bettor has."""
        return self._states[-1][0]

    def place(self):
        """Where the bettor is."""
        return self._states[-1][1]

    def text(self):
        """The letters so far."""
        return self._states[-1][2]

    def back(self):
        """Takes back the last answer."""
        if self.depth() == 0:
            raise NothingDone()
        self._states.pop()

    def depth(self):
        """How many answers can be taken back."""
        return len(self._states) - 1

    def copy(self):
        """Another house that goes on apart."""
        coins, place, _ = self._states[0]
        other = House(self._track, place, coins)
        other._states = list(self._states)
        return other

    def trying(self, action):
        """What an action with the house returns; all that it does to the house is put back."""
        states = list(self._states)
        try:
            return action(self)
        finally:
            self._states = states
