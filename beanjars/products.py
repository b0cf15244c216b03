"""The last bean of tables that pass the check, and the group of the last bean of any table."""

from beanjars.arguments import need_colours, need_number
from beanjars.checks import first_dispute
from beanjars.errors import Disputed
from beanjars.groups import groups, quotient
from beanjars.jars import need_beans

MOST_TOTAL = 40


def need_passing(table):
    """Raise Disputed with the first disputed colours if the table does not pass the check."""
    triple = first_dispute(table)
    if triple is not None:
        raise Disputed(triple)


def joined(rows, one, other):
    """The bean of two beans, either of which can be None for no bean."""
    if one is None:
        return other
    if other is None:
        return one
    return rows[one][other]


def power(rows, colour, count):
    """The last bean of so many beans of a colour, or None for no bean."""
    bean = None
    square = colour
    while count > 0:
        if count % 2 == 1:
            bean = joined(rows, bean, square)
        square = rows[square][square]
        count //= 2
    return bean


def last_of_counts(table, counts):
    """The last bean of a jar with these counts, by a table that passes the check."""
    rows = table.rows()
    bean = None
    for colour, count in enumerate(counts):
        bean = joined(rows, bean, power(rows, colour, count))
    return bean


def last_bean(table, jar):
    """The last bean of a jar, by a table that passes the check."""
    need_passing(table)
    need_beans(table, jar)
    return last_of_counts(table, jar.counts())


def last_group(table, jar):
    """The group of the last bean of a jar, by any table."""
    need_beans(table, jar)
    parts = groups(table)
    counts = [sum([jar[colour] for colour in part]) for part in parts]
    return parts[last_of_counts(quotient(table), counts)]


def powers(table, colour):
    """The different powers of a colour, and the number of beans of the first one that occurs again."""
    need_passing(table)
    need_colours([colour], table.size)
    found = [colour]
    bean = table[colour, colour]
    while bean not in found:
        found.append(bean)
        bean = table[bean, colour]
    return (found, found.index(bean) + 1)


def with_colour(rows, colour, numbers, total):
    """The numbers of jars by their total and last bean, after beans of one more colour are put in."""
    beans = [power(rows, colour, count) for count in range(total + 1)]
    found = {}
    for (many, bean), number in numbers.items():
        for count in range(total - many + 1):
            key = (many + count, joined(rows, bean, beans[count]))
            found[key] = found.get(key, 0) + number
    return found


def count_jars(table, total):
    """For each colour the number of jars with so many beans whose last bean has the colour."""
    need_passing(table)
    need_number(total, 1, MOST_TOTAL)
    rows = table.rows()
    numbers = {(0, None): 1}
    for colour in range(table.size):
        numbers = with_colour(rows, colour, numbers, total)
    return [numbers.get((total, colour), 0) for colour in range(table.size)]
