"""Values, tables and a slow but plain search that several tests use."""

from itertools import product


class Touchy:
    """An object that cannot be compared, measured, iterated or hashed."""

    __hash__ = None

    def __eq__(self, other):
        raise RuntimeError("compared")

    def __lt__(self, other):
        raise RuntimeError("compared")

    def __len__(self):
        raise RuntimeError("measured")

    def __bool__(self):
        raise RuntimeError("tested")

    def __iter__(self):
        raise RuntimeError("iterated")

    def __index__(self):
        raise RuntimeError("taken as a number")

    def __repr__(self):
        raise RuntimeError("shown")


class Agreeable:
    """An object that says that it equals everything."""

    __hash__ = None

    def __eq__(self, other):
        return True


def no_sequences():
    """Values that are neither lists nor tuples."""
    return [None, True, False, 0, 1, -1, 10 ** 30, 1.0, float("nan"), 1j, "", "0", "01", b"", b"\x00",
            {}, {0: 0}, set(), {0}, frozenset([0]), range(1), object(), Touchy(), Agreeable(),
            len, int, slice(0, 1), iter([0]), (x for x in [0])]


def no_integers():
    """Values that are not integers."""
    return [value for value in no_sequences() if value is True or value is False or not isinstance(value, int)] + [
        [], [0], (), (0,), (0, 0), [[0]]]


def no_colours(size):
    """Values that are not one of so many colours."""
    return no_integers() + [-1, size, size + 1, -size, 10 ** 30, -10 ** 30]


def no_renamings(size):
    """Values that are not renamings of so many colours."""
    right = list(range(size))
    wrong = no_sequences() + [[], (), right + [size], right[1:], right + [0], [right], [-1] + right[1:],
                              [size] + right[1:], [right[-1]] + right[1:-1] + [size]]
    wrong += [right[:-1] + [value] for value in no_colours(size)]
    wrong += [[value] + right[1:] for value in no_colours(size)]
    if size > 1:
        wrong += [[0] * size, right[:-1] + [right[0]], tuple(right[:-1] + [right[0]])]
    return wrong


def rows_of(size, colour):
    """The rows of a table, where colour(a, b) tells each entry."""
    return [[colour(a, b) for b in range(size)] for a in range(size)]


def all_rows(size):
    """The rows of all tables with so many colours."""
    places = [(a, b) for a in range(size) for b in range(a, size)]
    for entries in product(range(size), repeat=len(places)):
        at = dict(zip(places, entries))
        yield rows_of(size, lambda a, b: at[min(a, b), max(a, b)])


def all_counts(size, most):
    """The counts of all jars with 1 to most beans."""
    return [counts for counts in product(range(most + 1), repeat=size) if 1 <= sum(counts) <= most]


def searched_last_beans(rows, counts, known):
    """The possible last beans, found by trying out all draws."""
    if counts in known:
        return known[counts]
    if sum(counts) == 1:
        return {counts.index(1)}
    found = set()
    for a in range(len(rows)):
        for b in range(a, len(rows)):
            rest = list(counts)
            rest[a] -= 1
            rest[b] -= 1
            if min(rest) >= 0:
                rest[rows[a][b]] += 1
                found |= searched_last_beans(rows, tuple(rest), known)
    known[counts] = found
    return found
