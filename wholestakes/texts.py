"""Tracks, tables and goals as texts."""

from wholestakes.words import figures, words_of


def track_text(track):
    """The text of a track: its places, then its arrows."""
    lines = [f"places {track.places}\n"]
    for start, letter, pay, to in track.arrows:
        lines.append(f"arrow {start} {letter} {pay} {to}\n")
    return "".join(lines)


def table_text(table):
    """The text of a table: a line for each place."""
    return "".join([entry_line(entry) for entry in table])


def entry_line(entry):
    if entry is None:
        return "none\n"
    coins, turns, stake = entry
    return f"coins {figures(coins)} turns {figures(turns)} lay {words_of(stake)}\n"


def goals_text(goals):
    """The text of goals or caps: one line with a word for each place."""
    return words_of(goals) + "\n"
