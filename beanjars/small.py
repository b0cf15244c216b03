"""Small jars, in which all that drawing can lead to is looked at, and exact chances."""

from beanjars.arguments import are_different_colours
from beanjars.errors import InvalidWanted, LimitExceeded
from beanjars.jars import need_beans

MOST_BEANS = 30
MOST_JARS = 500


def count_smaller_jars(colours, total):
    """The number of jars with beans, at most so many in total, of so many colours."""
    many = 1
    # After each step this is the number of ways to choose colour out of total + colour, so nothing is left over.
    for colour in range(1, colours + 1):
        many = many * (total + colour) // colour
    return many - 1


def need_small(table, jar):
    """Raise WrongSize, EmptyJar or LimitExceeded if the jar is no small one with beans of the table's colours."""
    need_beans(table, jar)
    if jar.total > MOST_BEANS or count_smaller_jars(jar.size, jar.total) > MOST_JARS:
        raise LimitExceeded(MOST_JARS)


def need_wanted(wanted, size):
    """Raise InvalidWanted if a value, which can be any, is no list or tuple of different colours."""
    if not are_different_colours(wanted, size):
        raise InvalidWanted()


def count_pairs(counts, draw):
    """The number of pairs of beans that are this draw from a jar with these counts."""
    a, b = draw
    return counts[a] * (counts[a] - 1) // 2 if a == b else counts[a] * counts[b]


def count_all_pairs(total):
    """The number of pairs of so many beans."""
    return total * (total - 1) // 2


def in_lowest_terms(part, whole):
    """A chance as a tuple without a common divisor greater than 1."""
    one, other = part, whole
    while other > 0:
        one, other = other, one % other
    return (part // one, whole // one)
