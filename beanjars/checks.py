"""The check on three beans: whether the last bean can depend on the drawing."""

from beanjars.jars import Jar, is_way, last_of


def first_dispute_in(rows):
    """The least disputed tuple of three colours of the table with these rows, or None."""
    for a, row in enumerate(rows):
        for b, bean in enumerate(row):
            for c, other in enumerate(rows[b]):
                if rows[bean][c] != row[other]:
                    return (a, b, c)
    return None


def first_dispute(table):
    """The least disputed tuple of three colours, or None."""
    return first_dispute_in(table.rows())


def passes(table):
    """Whether no three colours are disputed."""
    return first_dispute(table) is None


def draw_of(a, b):
    """The draw of two beans, given in any order."""
    return (min(a, b), max(a, b))


def dispute(table):
    """A jar of three beans and two ways of it with different last beans, or None."""
    triple = first_dispute(table)
    if triple is None:
        return None
    a, b, c = triple
    one = [draw_of(a, b), draw_of(table[a, b], c)]
    other = [draw_of(b, c), draw_of(a, table[b, c])]
    return (Jar.of_beans(table.size, [a, b, c]), one, other)


def is_dispute(table, value):
    """Whether a value, which can be any, is a dispute of the table."""
    if not isinstance(value, tuple) or len(value) != 3:
        return False
    jar, one, other = value
    if not isinstance(jar, Jar) or jar.size != table.size or jar.total != 3:
        return False
    if not is_way(table, jar, one) or not is_way(table, jar, other):
        return False
    return last_of(table, jar, one) != last_of(table, jar, other)
