"""All errors that the program raises."""


class BoughError(ValueError):
    """The base class of all errors of the program."""


class BadTree(BoughError):
    """A link of a tree is bad, or the links leave the cells in several pieces."""

    def __init__(self, index):
        self.index = index


class BadText(BoughError):
    """A text cannot be read."""

    def __init__(self, position):
        self.position = position


class BadOrder(BoughError):
    """An order contains another character than K and R."""

    def __init__(self, index):
        self.index = index


class BadCommand(BoughError):
    """A command line is wrong at a word."""

    def __init__(self, word):
        self.word = word


class BatchRefused(BoughError):
    """One of several lines is refused, and with it all of them."""

    def __init__(self, index):
        self.index = index


class OutOfRange(BoughError):
    """A number lies outside of its range."""

    def __init__(self, value):
        self.value = value


class UnevenSums(BoughError):
    """Two size lists that are compared have different sums."""

    def __init__(self, first, second):
        self.first = first
        self.second = second


class WrongLength(BoughError):
    """Something has another length than it needs."""

    def __init__(self, given, needed):
        self.given = given
        self.needed = needed


class NotLive(BoughError):
    """A cell is not live."""

    def __init__(self, cell):
        self.cell = cell


class LastCell(BoughError):
    """A cell is the last one and must stay."""

    def __init__(self, cell):
        self.cell = cell


class NotTip(BoughError):
    """A cell has too many neighbours to be plucked."""

    def __init__(self, cell):
        self.cell = cell


class NotRegion(BoughError):
    """Cells do not form a region."""

    def __init__(self, pieces):
        self.pieces = pieces


class UnevenChoice(BoughError):
    """The alternatives of a choice have different numbers of turns."""

    def __init__(self, position):
        self.position = position


class TooLarge(BoughError):
    """A script is too long, or it has too many turns or runs."""

    def __init__(self, count):
        self.count = count


class UnknownName(BoughError):
    """A name is not defined."""

    def __init__(self, name):
        self.name = name


class NameTaken(BoughError):
    """A name is defined already."""

    def __init__(self, name):
        self.name = name


class WrongKind(BoughError):
    """A name stands for another kind of thing than is needed."""

    def __init__(self, name):
        self.name = name


class NotKept(BoughError):
    """A size list is lost where it has to be kept."""


class NotSound(BoughError):
    """A web is not sound."""


class PlayOver(BoughError):
    """A play is over."""


class NoQuestion(BoughError):
    """There is no question to answer."""


class NothingToUndo(BoughError):
    """There is nothing to take back."""


class NothingToRedo(BoughError):
    """There is nothing to carry out once more."""
