"""Values, tables and a slow but plain search that several tests use."""

from itertools import product


# Rows of tables whose groups are larger than the tests of three colours alone show.
LINKED = (
    [[0, 0, 0, 0], [0, 0, 3, 1], [0, 3, 2, 2], [0, 1, 2, 3]],
    [[0, 0, 0, 0], [0, 1, 2, 3], [0, 2, 2, 1], [0, 3, 1, 0]],
    [[0, 0, 0, 0], [0, 2, 1, 0], [0, 1, 3, 0], [0, 0, 0, 0]],
    [[0, 0, 0, 5, 0, 0], [0, 1, 2, 3, 4, 5], [0, 2, 4, 5, 1, 5], [5, 3, 5, 5, 5, 5], [0, 4, 1, 5, 5, 5],
     [0, 5, 5, 5, 5, 5]],
    [[5, 0, 0, 0, 0, 0, 0], [0, 1, 2, 3, 4, 5, 6], [0, 2, 4, 6, 1, 6, 6], [0, 3, 6, 6, 6, 6, 6],
     [0, 4, 1, 6, 6, 6, 6], [0, 5, 6, 6, 6, 6, 6], [0, 6, 6, 6, 6, 6, 6]],
)
# Rows of a table with a reason that has steps inside steps inside steps.
DEEP = [[0, 1, 2, 3, 4, 5, 6, 7], [1, 2, 0, 4, 5, 6, 7, 7], [2, 0, 4, 5, 6, 7, 7, 7], [3, 4, 5, 6, 7, 7, 7, 7],
        [4, 5, 6, 7, 7, 7, 7, 7], [5, 6, 7, 7, 7, 7, 7, 7], [6, 7, 7, 7, 7, 7, 7, 7], [7, 7, 7, 7, 7, 7, 7, 7]]


class Touchy:
    """An object that cannot be compared, measured, iterated or hashed."""

    __hash__ = None

    def __eq__(self, other):
        raise RuntimeError("compared")

    def __lt__(self, other):
        raise RuntimeError("compared")

    def __len__(self):
        raise RuntimeError("measured")

    def __bool__(self):
        raise RuntimeError("tested")

    def __iter__(self):
        raise RuntimeError("iterated")

    def __index__(self):
        raise RuntimeError("taken as a number")

    def __repr__(self):
        raise RuntimeError("shown")


class Agreeable:
    """An object that says that it equals everything."""

    __hash__ = None

    def __eq__(self, other):
        return True


def no_sequences():
    """Values that are neither lists nor tuples."""
    return [None, True, False, 0, 1, -1, 10 ** 30, 1.0, float("nan"), 1j, "", "0", "01", b"", b"\x00",
            {}, {0: 0}, set(), {0}, frozenset([0]), range(1), object(), Touchy(), Agreeable(),
            len, int, slice(0, 1), iter([0]), (x for x in [0])]


def no_integers():
    """Values that are not integers."""
    return [value for value in no_sequences() if value is True or value is False or not isinstance(value, int)] + [
        [], [0], (), (0,), (0, 0), [[0]]]


def no_colours(size):
    """Values that are not one of so many colours."""
    return no_integers() + [-1, size, size + 1, -size, 10 ** 30, -10 ** 30]


def no_renamings(size):
    """Values that are not renamings of so many colours."""
    right = list(range(size))
    wrong = no_sequences() + [[], (), right + [size], right[1:], right + [0], [right], [-1] + right[1:],
                              [size] + right[1:], [right[-1]] + right[1:-1] + [size]]
    wrong += [right[:-1] + [value] for value in no_colours(size)]
    wrong += [[value] + right[1:] for value in no_colours(size)]
    if size > 1:
        wrong += [[0] * size, right[:-1] + [right[0]], tuple(right[:-1] + [right[0]])]
    return wrong


def rows_of(size, colour):
    """The rows of a table, where colour(a, b) tells each entry."""
    return [[colour(a, b) for b in range(size)] for a in range(size)]


def all_rows(size):
    """The rows of all tables with so many colours."""
    places = [(a, b) for a in range(size) for b in range(a, size)]
    for entries in product(range(size), repeat=len(places)):
        at = dict(zip(places, entries))
        yield rows_of(size, lambda a, b: at[min(a, b), max(a, b)])


def large_rows():
    """Rows of up to eight colours, some of tables that pass and some of others."""
    makers = (lambda k: rows_of(k, lambda a, b: (a + b) % k), lambda k: rows_of(k, lambda a, b: a * b % k),
              lambda k: rows_of(k, max), lambda k: rows_of(k, min), lambda k: rows_of(k, lambda a, b: 0),
              lambda k: rows_of(k, lambda a, b: abs(a - b)), lambda k: rows_of(k, lambda a, b: (2 * a + 2 * b) % k),
              lambda k: rows_of(k, lambda a, b: a if a == b else k - 1),
              lambda k: rows_of(k, lambda a, b: k - 2 if a == b == k - 1 and k > 1 else max(a, b)))
    return [make(size) for size in range(1, 9) for make in makers]


def mixed_rows(size, seed):
    """The rows of a table without any order in it, always the same one for a seed."""
    state = 7919 * size + 104729 * seed + 1
    rows = [[0] * size for _ in range(size)]
    for a in range(size):
        for b in range(a, size):
            state = (state * 6364136223846793005 + 1442695040888963407) % 2 ** 64
            rows[a][b] = rows[b][a] = (state >> 33) % size
    return rows


def grouped_rows(size, seed, many):
    """The rows of a table like mixed_rows, whose colours form many parts that the table respects."""
    outer, inner = rows_of(many, lambda a, b: (a + b) % many), mixed_rows(size, seed)
    return rows_of(size, lambda a, b: nearest(inner[a][b], outer[a % many][b % many], size, many))


def nearest(colour, rest, size, many):
    """A colour near to a colour that leaves this rest when divided by many."""
    choices = [c for c in range(size) if c % many == rest]
    return choices[colour % len(choices)]


def some_rows():
    """Rows of tables with one to eight colours, of many kinds."""
    rows = list(all_rows(1)) + list(all_rows(2)) + list(all_rows(3)) + large_rows() + list(LINKED) + [DEEP]
    rows += [mixed_rows(size, seed) for size in range(4, 9) for seed in range(12)]
    return rows + [grouped_rows(size, seed, many) for size in range(4, 9) for seed in range(6) for many in (2, 3)]


def passing_rows():
    """Rows of tables with one to eight colours that pass the check."""
    return [rows for rows in some_rows() if is_passing(rows)]


def is_passing(rows):
    """Whether a table passes the check, by the words of the document."""
    return all(rows[rows[a][b]][c] == rows[a][rows[b][c]] for a, b, c in product(range(len(rows)), repeat=3))


def joined_groups(rows):
    """The groups of a table, by joining colours until nothing changes."""
    colours = range(len(rows))
    parts = [{colour} for colour in colours]
    while True:
        wanted = [(rows[rows[a][b]][c], rows[a][rows[b][c]]) for a, b, c in product(colours, repeat=3)]
        wanted += [(rows[a][c], rows[b][c]) for part in parts for a in part for b in part for c in colours]
        joined = None
        for x, y in wanted:
            one = next(part for part in parts if x in part)
            if y not in one:
                other = next(part for part in parts if y in part)
                joined = [part for part in parts if part not in (one, other)] + [one | other]
                break
        if joined is None:
            return sorted(sorted(part) for part in parts)
        parts = joined


def all_divisions(size):
    """All divisions of so many colours, as lists of lists."""
    divisions = [[]]
    for colour in range(size):
        divisions = [parts[:at] + [parts[at] + [colour]] + parts[at + 1:] for parts in divisions
                     for at in range(len(parts))] + [parts + [[colour]] for parts in divisions]
    return divisions


def lists_within(value):
    """All lists within a value, the value itself included, each as often as it occurs."""
    found = [value] if isinstance(value, list) else []
    if isinstance(value, (list, tuple)):
        for item in value:
            found += lists_within(item)
    return found


def all_counts(size, most):
    """The counts of all jars with 1 to most beans."""
    return [counts for counts in product(range(most + 1), repeat=size) if 1 <= sum(counts) <= most]


def searched_last_beans(rows, counts, known):
    """The possible last beans, found by trying out all draws."""
    if counts in known:
        return known[counts]
    if sum(counts) == 1:
        return {counts.index(1)}
    found = set()
    for draw, rest in draws_and_jars(rows, counts):
        found |= searched_last_beans(rows, rest, known)
    known[counts] = found
    return found


def draws_and_jars(rows, counts):
    """Each possible draw of a jar, sorted, with the counts after it, by the words of the document."""
    found = []
    for a in range(len(rows)):
        for b in range(a, len(rows)):
            rest = list(counts)
            rest[a] -= 1
            rest[b] -= 1
            if min(rest) >= 0:
                rest[rows[a][b]] += 1
                found.append(((a, b), tuple(rest)))
    return found


def counts_with_total(size, total):
    """The counts of all jars with so many beans."""
    return [counts for counts in all_counts(size, total) if sum(counts) == total]


def no_numbers(least, greatest=None):
    """Values that are not integers from the least to the greatest one, or to any if that is None."""
    return no_integers() + [least - 1, least - 10, -10 ** 30] + (
        [] if greatest is None else [greatest + 1, greatest + 10, 10 ** 30])


def no_different_colours(size):
    """Values that are not lists or tuples of different colours."""
    right = list(range(size))
    wrong = no_sequences() + [[0, 0], (0, 0), right + [0], right + [size], tuple(right + [right[-1]]), [right], [-1]]
    return wrong + [[value] for value in no_colours(size)] + [right[:-1] + [value] for value in no_colours(size)]
