"""What kinds of things there are: integers, letters, texts, coins."""


def is_integer(thing):
    return isinstance(thing, int) and not isinstance(thing, bool)


def is_within(thing, low, high):
    """Whether a thing is an integer from low to high."""
    return is_integer(thing) and low <= thing <= high


def is_coins(thing):
    return is_integer(thing) and thing >= 0


def is_letter(thing):
    return isinstance(thing, str) and len(thing) == 1 and "a" <= thing <= "z"


def is_text(thing):
    return isinstance(thing, str) and all(["a" <= sign <= "z" for sign in thing])


def is_rising(items):
    """Whether each item is less than the next one; the items must be such as can be compared."""
    return all([items[at] < items[at + 1] for at in range(len(items) - 1)])
