"""The errors of the package: none of them is a subclass of another one."""


class InvalidTable(ValueError):
    """The rows are no table; place is the first wrong one, or None for rows of a wrong form."""

    def __init__(self, place):
        self.place = place


class InvalidRules(ValueError):
    """The rows are no open rules; place is the first wrong one, or None for a wrong form."""

    def __init__(self, place):
        self.place = place


class InvalidJar(ValueError):
    """The counts are no jar."""


class InvalidColour(ValueError):
    """The value is no colour, or nothing that could contain colours."""

    def __init__(self, value):
        self.value = value


class InvalidDraw(ValueError):
    """The value is no draw that can be made."""

    def __init__(self, value):
        self.value = value


class InvalidWay(ValueError):
    """The way fails at this index, or is no list if the index is None."""

    def __init__(self, index):
        self.index = index


class InvalidNumber(ValueError):
    """The value is no integer of the wanted range."""

    def __init__(self, value):
        self.value = value


class InvalidRenaming(ValueError):
    """The names are no renaming of all colours."""


class InvalidUser(ValueError):
    """The value is no user."""

    def __init__(self, value):
        self.value = value


class WrongSize(ValueError):
    """Two things have different numbers of colours."""


class ParseError(ValueError):
    """The text is wrong at this part, or as a whole if the index is None."""

    def __init__(self, index):
        self.index = index


class InvalidCommand(ValueError):
    """The command has none of the known forms."""


class InvalidShape(ValueError):
    """The value is no shape for these colours."""


class InvalidWanted(ValueError):
    """The wanted colours are no list or tuple of different colours."""


class InvalidTurn(ValueError):
    """The turn is neither 1 nor 2."""


class InvalidOrder(ValueError):
    """The order is no list or tuple of all colours, each once."""


class InvalidObservation(ValueError):
    """The observation at this index is none, or all are no list if the index is None."""

    def __init__(self, index):
        self.index = index


class EmptyJar(LookupError):
    """A last bean was asked for, but the jar has no beans."""


class NotEnough(LookupError):
    """There are too few beans of this colour."""

    def __init__(self, colour):
        self.colour = colour


class NoWay(LookupError):
    """No way leads to the colour."""


class Disputed(RuntimeError):
    """The table does not pass the check; triple has its first disputed colours."""

    def __init__(self, triple):
        self.triple = triple


class NothingToUndo(RuntimeError):
    """There is no move to undo or to redo."""


class NoJar(RuntimeError):
    """The command needs a jar, and there is none."""


class LimitExceeded(OverflowError):
    """There is more to handle than this limit allows."""

    def __init__(self, limit):
        self.limit = limit
