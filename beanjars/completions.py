"""Partly known tables and their completions, repairs of tables, and renamings that relate tables."""

from beanjars.arguments import is_colour, need_number
from beanjars.checks import first_dispute_in
from beanjars.errors import InvalidTable, LimitExceeded
from beanjars.jars import need_same_size
from beanjars.tables import Table, first_wrong_place, is_square

MOST_COMPLETIONS = 1024
MOST_CHANGES = 36
MOST_REPAIRS = 1500
MOST_RENAMED_COLOURS = 5
MOST_LISTED_COLOURS = 3


def is_entry(value, size):
    """Whether a value, which can be any, is an entry of a partly known table with so many colours."""
    return value is None or is_colour(value, size)


def need_partly_known(rows):
    """Raise InvalidTable if a value, which can be any, is no partly known table."""
    if not is_square(rows):
        raise InvalidTable(None)
    place = first_wrong_place(rows, is_entry)
    if place is not None:
        raise InvalidTable(place)


def pairs_of(size):
    """The pairs (a, b) of so many colours with a <= b, ascending."""
    return [(a, b) for a in range(size) for b in range(a, size)]


def gaps_of(rows):
    """The pairs whose entry is None, ascending."""
    return [(a, b) for a, b in pairs_of(len(rows)) if rows[a][b] is None]


def need_few_completions(rows):
    """Raise LimitExceeded if there are too many completions."""
    many = 1
    for pair in gaps_of(rows):
        many *= len(rows)
    if many > MOST_COMPLETIONS:
        raise LimitExceeded(MOST_COMPLETIONS)


def with_entry(rows, pair, colour):
    """New rows with another colour at both places of a pair."""
    a, b = pair
    changed = [list(row) for row in rows]
    changed[a][b] = colour
    changed[b][a] = colour
    return changed


def all_completions(rows):
    """The rows of all completions, ascending."""
    found = [[list(row) for row in rows]]
    # The later a pair is, the less it matters for the order.
    for pair in gaps_of(rows):
        found = [with_entry(partly, pair, colour) for partly in found for colour in range(len(rows))]
    return found


def passing_rows(many):
    """The rows, among many, of tables that pass the check."""
    return [rows for rows in many if first_dispute_in(rows) is None]


def completions(rows):
    """The completions that pass the check, ascending."""
    need_partly_known(rows)
    need_few_completions(rows)
    return [Table(full) for full in passing_rows(all_completions(rows))]


def open_choices(rows):
    """A dict from each pair whose entry is None to the sorted colours that it has in the completions."""
    tables = completions(rows)
    colours = list(range(len(rows)))
    return {
        pair: [colour for colour in colours if any([table[pair] == colour for table in tables])]
        for pair in gaps_of(rows)
    }


def count_changed(size, most):
    """The number of tables that differ from a table of this size in at most so many entries."""
    places = len(pairs_of(size))
    total = exactly = 1
    for number in range(min(places, most)):
        # After each step this is the number of choices of so many entries and other colours for them.
        exactly = exactly * (places - number) * (size - 1) // (number + 1)
        total += exactly
    return total


def changed_rows(rows, number):
    """The rows of all tables that differ from a table in just so many entries, ascending."""
    pairs = pairs_of(len(rows))
    # Each item has rows and the index of the first pair that may still be changed, so that none comes up twice.
    found = [(rows, 0)]
    for change in range(number):
        found = [
            (with_entry(partly, pairs[at], colour), at + 1)
            for partly, first in found for at in range(first, len(pairs))
            for colour in range(len(rows)) if colour != partly[pairs[at][0]][pairs[at][1]]
        ]
    return sorted([changed for changed, first in found])


def repairs(table, most):
    """The least number of entries to change so that a table passes, and all tables that pass after so many changes.

    None if more than most entries have to be changed.
    """
    need_number(most, 0, MOST_CHANGES)
    if count_changed(table.size, most) > MOST_REPAIRS:
        raise LimitExceeded(MOST_REPAIRS)
    for number in range(most + 1):
        found = passing_rows(changed_rows(table.rows(), number))
        if found:
            return (number, [Table(rows) for rows in found])
    return None


def all_renamings(size):
    """All renamings of so many colours, as lists, ascending."""
    found = [[]]
    for number in range(size):
        found = [names + [name] for names in found for name in range(size) if name not in names]
    return found


def need_few_colours(table):
    """Raise LimitExceeded if a table has too many colours to try all renamings."""
    if table.size > MOST_RENAMED_COLOURS:
        raise LimitExceeded(MOST_RENAMED_COLOURS)


def least_renaming(table):
    """The renamed table with the least rows, and the least renaming that leads to it."""
    need_few_colours(table)
    rows, names = min([(table.renamed(names).rows(), names) for names in all_renamings(table.size)])
    return (Table(rows), names)


def renamings_to(first, second):
    """All renamings that lead from a table to another one, ascending."""
    return [names for names in all_renamings(first.size) if first.renamed(names) == second]


def symmetries(table):
    """All renamings that do not change a table, ascending."""
    need_few_colours(table)
    return renamings_to(table, table)


def renaming_between(first, second):
    """The least renaming that leads from a table to another one, or None."""
    need_same_size(first, second)
    need_few_colours(first)
    found = renamings_to(first, second)
    return found[0] if found else None


def tables_up_to_renaming(size):
    """The tables that pass the check and have the least rows among their renamed tables, ascending."""
    need_number(size, 1, MOST_LISTED_COLOURS)
    tables = completions([[None] * size for row in range(size)])
    return [table for table in tables if least_renaming(table)[0] == table]
