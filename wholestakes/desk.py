"""The desk: tracks are kept by names, and asked about, line by line."""

from wholestakes.errors import NoLine, NoName, NothingDone
from wholestakes.kinds import is_text
from wholestakes.questions import QUESTIONS, is_value, value_of
from wholestakes.reading import read_track

MOST_NAME = 8


class Desk:
    """Tracks with their names."""

    def __init__(self):
        self._tracks = {}
        # For each line that can be taken back the name, and the track that it had ahead of it, or None.
        self._done = []

    def tell(self, line):
        """Does a line, and returns what it tells."""
        if not isinstance(line, str) or "\n" in line:
            raise NoLine()
        words = line.split(" ")
        if line == "names":
            return " ".join(sorted(self._tracks)) or "none"
        if line == "undo":
            return self._undo()
        if words[0] == "track":
            return self._keep(line)
        if words[0] == "drop":
            return self._drop(words)
        return self._answer(words)

    def undoable(self):
        """How many lines can be taken back."""
        return len(self._done)

    def _keep(self, line):
        # What stands behind the name may have blanks side by side: it is left as it is.
        parts = line.split(" ", 2)
        if len(parts) < 3 or not is_name(parts[1]) or parts[2] == "":
            raise NoLine()
        found = read_track(parts[2].replace("|", "\n"))
        self._change(parts[1], found)
        return "ok"

    def _drop(self, words):
        if len(words) != 2 or not is_name(words[1]):
            raise NoLine()
        self._track_of(words[1])
        self._change(words[1], None)
        return "ok"

    def _answer(self, words):
        if words[0] not in QUESTIONS:
            raise NoLine()
        kinds, action = QUESTIONS[words[0]]
        if len(words) != 2 + len(kinds) or not is_name(words[1]):
            raise NoLine()
        told = list(zip(kinds, words[2:]))
        if not all([is_value(kind, word) for kind, word in told]):
            raise NoLine()
        track = self._track_of(words[1])
        values = [value_of(kind, word) for kind, word in told]
        return action(track, *values)

    def _undo(self):
        if len(self._done) == 0:
            raise NothingDone()
        name, track = self._done.pop()
        self._put(name, track)
        return "ok"

    def _track_of(self, name):
        if name not in self._tracks:
            raise NoName(name)
        return self._tracks[name]

    def _change(self, name, track):
        self._done.append((name, self._tracks.get(name)))
        self._put(name, track)

    def _put(self, name, track):
        if track is None:
            del self._tracks[name]
        else:
            self._tracks[name] = track


def is_name(word):
    return is_text(word) and 1 <= len(word) <= MOST_NAME
