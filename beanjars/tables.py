"""Tables: which bean replaces two beans that are drawn."""

from beanjars.arguments import MOST_COLOURS, is_colour, is_pair, is_sequence, need_colours, need_renaming
from beanjars.errors import InvalidColour, InvalidTable


def is_square(rows):
    """Whether a value has the form of a table, whatever its entries are."""
    if not is_sequence(rows) or not 1 <= len(rows) <= MOST_COLOURS:
        return False
    return all([is_sequence(row) and len(row) == len(rows) for row in rows])


def first_wrong_place(rows, is_entry):
    """The first place, row by row, without an entry or with another one than its mirrored place before it, or None."""
    for a, row in enumerate(rows):
        for b, entry in enumerate(row):
            if not is_entry(entry, len(rows)) or (b < a and entry != rows[b][a]):
                return (a, b)
    return None


class Table:
    """The colour of the bean that replaces two beans, for each two colours."""

    def __init__(self, rows):
        if not is_square(rows):
            raise InvalidTable(None)
        place = first_wrong_place(rows, is_colour)
        if place is not None:
            raise InvalidTable(place)
        self.grid = tuple([tuple(row) for row in rows])

    @property
    def size(self):
        """The number of colours."""
        return len(self.grid)

    def __len__(self):
        return len(self.grid)

    def __eq__(self, other):
        return isinstance(other, Table) and self.grid == other.grid

    def __getitem__(self, at):
        if not is_pair(at):
            raise InvalidColour(at)
        need_colours(at, len(self.grid))
        return self.grid[at[0]][at[1]]

    def __contains__(self, x):
        return is_colour(x, len(self.grid))

    def __iter__(self):
        raise TypeError("a table cannot be iterated")

    def rows(self):
        """The rows, as a list of lists."""
        return [list(row) for row in self.grid]

    def fold(self, colours):
        """The bean that is left if the beans are drawn from the left."""
        if not is_sequence(colours) or len(colours) == 0:
            raise InvalidColour(colours)
        need_colours(colours, len(self.grid))
        bean = colours[0]
        for colour in colours[1:]:
            bean = self.grid[bean][colour]
        return bean

    def renamed(self, names):
        """The table that has the renamed results at the renamed colours."""
        need_renaming(names, len(self.grid))
        rows = self.rows()
        for a, row in enumerate(self.grid):
            for b, colour in enumerate(row):
                rows[names[a]][names[b]] = names[colour]
        return Table(rows)
