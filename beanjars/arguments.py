"""Questions about arguments, which can be any values, and the errors for wrong ones."""

from beanjars.errors import InvalidColour, InvalidRenaming

MOST_COLOURS = 8


def is_integer(value):
    """Whether a value is an integer."""
    # Python counts True and False as ints; the package does not.
    return isinstance(value, int) and not isinstance(value, bool)


def is_colour(value, size):
    """Whether a value is one of so many colours."""
    return is_integer(value) and 0 <= value < size


def is_sequence(value):
    """Whether a value is a list or a tuple."""
    return isinstance(value, (list, tuple))


def is_pair(value):
    """Whether a value is a tuple of two items."""
    return isinstance(value, tuple) and len(value) == 2


def need_colours(values, size):
    """Raise InvalidColour with the first of the values that is no colour."""
    for value in values:
        if not is_colour(value, size):
            raise InvalidColour(value)


def need_renaming(names, size):
    """Raise InvalidRenaming if the names are no renaming of so many colours."""
    if not is_sequence(names):
        raise InvalidRenaming()
    # Only colours can be sorted here: other values may not be comparable.
    if not all([is_colour(name, size) for name in names]):
        raise InvalidRenaming()
    if sorted(names) != list(range(size)):
        raise InvalidRenaming()
