"""Questions about arguments, which can be any values, and the errors for wrong ones."""

from beanjars.errors import InvalidColour, InvalidNumber, InvalidRenaming

MOST_COLOURS = 8


def is_integer(value):
    """Whether a value is an integer."""
    # Python counts True and False as ints; the package does not.
    return isinstance(value, int) and not isinstance(value, bool)


def is_colour(value, size):
    """Whether a value is one of so many colours."""
    return is_integer(value) and 0 <= value < size


def is_sequence(value):
    """Whether a value is a list or a tuple."""
    return isinstance(value, (list, tuple))


def is_pair(value):
    """Whether a value is a tuple of two items."""
    return isinstance(value, tuple) and len(value) == 2


def need_colours(values, size):
    """Raise InvalidColour with the first of the values that is no colour."""
    for value in values:
        if not is_colour(value, size):
            raise InvalidColour(value)


def need_number(value, least, greatest):
    """Raise InvalidNumber if a value is no integer from the least to the greatest one, or to any if that is None."""
    if not is_integer(value) or value < least or (greatest is not None and value > greatest):
        raise InvalidNumber(value)


def are_different_colours(values, size):
    """Whether a value is a list or tuple of different ones of so many colours."""
    # Only colours are compared here: other values may not be comparable.
    return is_sequence(values) and all([is_colour(value, size) for value in values]) and len(set(values)) == len(values)


def are_all_colours(values, size):
    """Whether a value is a list or tuple of all of so many colours, each once."""
    return are_different_colours(values, size) and len(values) == size


def need_renaming(names, size):
    """Raise InvalidRenaming if the names are no renaming of so many colours."""
    if not are_all_colours(names, size):
        raise InvalidRenaming()
