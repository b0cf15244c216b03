"""Jars of beans, the draws from them, and the ways to a last bean."""

from beanjars.arguments import MOST_COLOURS, is_colour, is_integer, is_pair, is_sequence
from beanjars.arguments import need_colours, need_number, need_renaming
from beanjars.drawing import counts_after, possible_draws
from beanjars.errors import EmptyJar, InvalidColour, InvalidDraw, InvalidJar, InvalidNumber, InvalidWay
from beanjars.errors import NotEnough, WrongSize


def is_count(value):
    """Whether a value is an integer of at least 0."""
    return is_integer(value) and value >= 0


def need_same_size(one, other):
    """Raise WrongSize if two tables or jars have different numbers of colours."""
    if one.size != other.size:
        raise WrongSize()


class Jar:
    """The count of the beans of each colour."""

    def __init__(self, counts):
        if not is_sequence(counts) or not 1 <= len(counts) <= MOST_COLOURS:
            raise InvalidJar()
        if not all([is_count(count) for count in counts]):
            raise InvalidJar()
        self.amounts = tuple(counts)

    @classmethod
    def of_beans(cls, size, beans):
        """The jar with so many colours and the beans of a list or tuple."""
        need_number(size, 1, MOST_COLOURS)
        if not is_sequence(beans):
            raise InvalidColour(beans)
        need_colours(beans, size)
        counts = [0] * size
        for bean in beans:
            counts[bean] += 1
        return cls(counts)

    @property
    def size(self):
        """The number of colours."""
        return len(self.amounts)

    @property
    def total(self):
        """The number of beans."""
        return sum(self.amounts)

    def counts(self):
        """The counts of all colours, as a list."""
        return list(self.amounts)

    def colours(self):
        """The colours that have beans, ascending."""
        return [colour for colour, count in enumerate(self.amounts) if count > 0]

    def __getitem__(self, at):
        if not is_colour(at, len(self.amounts)):
            raise InvalidColour(at)
        return self.amounts[at]

    def __contains__(self, x):
        return is_colour(x, len(self.amounts)) and self.amounts[x] > 0

    def __bool__(self):
        return any(self.amounts)

    def __iter__(self):
        raise TypeError("a jar cannot be iterated")

    def __eq__(self, other):
        return isinstance(other, Jar) and self.amounts == other.amounts

    def __add__(self, other):
        if not isinstance(other, Jar):
            return NotImplemented
        need_same_size(self, other)
        return Jar([one + more for one, more in zip(self.amounts, other.amounts)])

    def __sub__(self, other):
        if not isinstance(other, Jar):
            return NotImplemented
        need_same_size(self, other)
        for colour, count in enumerate(self.amounts):
            if count < other.amounts[colour]:
                raise NotEnough(colour)
        return Jar([one - less for one, less in zip(self.amounts, other.amounts)])

    def __mul__(self, other):
        if not is_count(other):
            raise InvalidNumber(other)
        return Jar([count * other for count in self.amounts])

    def draws(self):
        """The possible draws, sorted."""
        return possible_draws(self.amounts)

    def can_draw(self, value):
        """Whether a value, which can be any, is a possible draw."""
        if not is_pair(value) or not all([colour in self for colour in value]):
            return False
        a, b = value
        return a < b or (a == b and self.amounts[a] > 1)

    def renamed(self, names):
        """The jar in which each colour has the number at its index in names."""
        need_renaming(names, len(self.amounts))
        counts = self.counts()
        for colour, count in enumerate(self.amounts):
            counts[names[colour]] = count
        return Jar(counts)


def after(table, jar, draw):
    """The jar after a draw."""
    need_same_size(table, jar)
    if not jar.can_draw(draw):
        raise InvalidDraw(draw)
    return Jar(counts_after(table.rows(), jar.counts(), draw))


def need_beans(table, jar):
    """Raise WrongSize, then EmptyJar, if the jar can have no last bean by the table."""
    need_same_size(table, jar)
    if not jar:
        raise EmptyJar()


def walked(table, jar, draws):
    """The jar and the jars after its draws, up to the first draw that is not possible."""
    jars = [jar]
    for draw in draws:
        if not jars[-1].can_draw(draw):
            break
        jars.append(after(table, jars[-1], draw))
    return jars


def is_way(table, jar, way):
    """Whether a value, which can be any, is a way of a jar that has the table's size."""
    if not isinstance(way, list):
        return False
    jars = walked(table, jar, way)
    return len(jars) == len(way) + 1 and jars[-1].total == 1


def played(table, jar, way):
    """The jars of a way, from the jar itself to the one with the last bean."""
    need_beans(table, jar)
    if not isinstance(way, list):
        raise InvalidWay(None)
    jars = walked(table, jar, way)
    # The walk stops at the first wrong draw, or at the end with too many beans.
    if len(jars) <= len(way) or jars[-1].total > 1:
        raise InvalidWay(len(jars) - 1)
    return jars


def last_of(table, jar, way):
    """The colour of the last bean of a way."""
    jars = played(table, jar, way)
    return jars[-1].colours()[0]
