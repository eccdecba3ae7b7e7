"""Numbers and goals as words of a text."""

MOST_FIGURES = 40


def is_number(word):
    """Whether a word is a number: decimal, without a sign and needless zeros."""
    if not 1 <= len(word) <= MOST_FIGURES or not all(["0" <= sign <= "9" for sign in word]):
        return False
    return word == "0" or word[0] != "0"


def is_goal(word):
    """Whether a word is a number, or a dash for None."""
    return word == "-" or is_number(word)


def goal_of(word):
    return None if word == "-" else int(word)


def figures(number):
    """The decimal figures of a number from 0 on, however great."""
    parts = []
    # Python itself refuses to write a number of many thousands of figures at once.
    while number >= 10 ** 64:
        number, low = divmod(number, 10 ** 64)
        parts.append(str(low).zfill(64))
    parts.append(str(number))
    return "".join(parts[::-1])


def words_of(goals):
    """The words of numbers or None, with blanks between."""
    return " ".join(["-" if goal is None else figures(goal) for goal in goals])
