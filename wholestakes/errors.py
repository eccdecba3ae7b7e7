"""The errors of the package: each keeps just the fields with which it is made."""


class StakeError(ValueError):
    """What every error of the package is."""


class BadTrack(StakeError):
    """A track cannot be made: the part that is not as told."""

    def __init__(self, part):
        self.part = part


class NoPlace(StakeError):
    """This is no place of the track."""

    def __init__(self):
        pass


class NoLetter(StakeError):
    """This is no letter that can come there."""

    def __init__(self):
        pass


class NoRow(StakeError):
    """This is no row of the place."""

    def __init__(self):
        pass


class NoNumber(StakeError):
    """This is no number within the bounds."""

    def __init__(self):
        pass


class TooMany(StakeError):
    """There are more than the most that is allowed."""

    def __init__(self, most):
        self.most = most


class TooLong(StakeError):
    """This is longer than the most that is allowed."""

    def __init__(self, most):
        self.most = most


class NoNames(StakeError):
    """These are no new names for the letters of the track."""

    def __init__(self):
        pass


class NoPay(StakeError):
    """This is no pay."""

    def __init__(self):
        pass


class NoCoins(StakeError):
    """This is no number of coins."""

    def __init__(self):
        pass


class NoStake(StakeError):
    """This is no stake there for so many coins."""

    def __init__(self):
        pass


class NoLot(StakeError):
    """This is no lot of the asked kind."""

    def __init__(self):
        pass


class NoGoals(StakeError):
    """These are no goals for the track."""

    def __init__(self):
        pass


class NotHopeful(StakeError):
    """The place is not hopeful."""

    def __init__(self):
        pass


class NoLimit(StakeError):
    """This is no limit."""

    def __init__(self):
        pass


class BadStake(StakeError):
    """A bettor gave what is no stake, behind the letters so far."""

    def __init__(self, row):
        self.row = row


class Grows(StakeError):
    """The bettor could grow from there."""

    def __init__(self):
        pass


class BadLetter(StakeError):
    """A house gave what is no letter, behind the letters so far."""

    def __init__(self, row):
        self.row = row


class NoTable(StakeError):
    """This is no table for the track."""

    def __init__(self):
        pass


class TooFew(StakeError):
    """There are fewer coins than the least that are needed."""

    def __init__(self, least):
        self.least = least


class NothingDone(StakeError):
    """There is nothing to take back."""

    def __init__(self):
        pass


class BadText(StakeError):
    """A text cannot be read: the line that is wrong, or 0."""

    def __init__(self, line):
        self.line = line


class NoLine(StakeError):
    """This is no line of the desk."""

    def __init__(self):
        pass


class NoName(StakeError):
    """There is no track of this name."""

    def __init__(self, name):
        self.name = name


class NoText(StakeError):
    """This is no text of the asked length."""

    def __init__(self):
        pass


class NoFee(StakeError):
    """This is no fee."""

    def __init__(self):
        pass


class NoChances(StakeError):
    """These are no fair chances for the lot."""

    def __init__(self):
        pass


class NoPlan(StakeError):
    """This is no plan."""

    def __init__(self):
        pass
