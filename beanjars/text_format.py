"""Texts of jars, tables and lists of draws, and the parsers for them."""

from beanjars.errors import InvalidJar, InvalidTable, ParseError
from beanjars.jars import Jar
from beanjars.tables import Table

MOST_DIGITS = 60
DIGITS = "0123456789"


def is_written_integer(text):
    """Whether a text is an integer as it has to be written."""
    if not 1 <= len(text) <= MOST_DIGITS or not all([sign in DIGITS for sign in text]):
        return False
    return text == "0" or text[0] != "0"


def are_written_integers(text):
    """Whether a text consists of integers, separated by single spaces."""
    return all([is_written_integer(part) for part in text.split(" ")])


def is_written_draw(text):
    """Whether a text is a draw as it has to be written."""
    parts = text.split("-")
    if len(parts) != 2 or not all([is_written_integer(part) for part in parts]):
        return False
    return int(parts[0]) <= int(parts[1])


def need_text(text):
    """Raise ParseError if a value, which can be any, is no string."""
    if not isinstance(text, str):
        raise ParseError(None)


def need_written(parts, is_written):
    """Raise ParseError with the index of the first part that is not written as it has to be."""
    for index, part in enumerate(parts):
        if not is_written(part):
            raise ParseError(index)


def integers_in(text, sign):
    """The integers of a text in which they are separated by a sign."""
    return [int(part) for part in text.split(sign)]


def joined(integers):
    """The text of integers, separated by single spaces."""
    return " ".join([str(number) for number in integers])


def format_jar(jar):
    """The text of a jar."""
    return joined(jar.counts())


def format_table(table):
    """The text of a table."""
    return "\n".join([joined(row) for row in table.rows()])


def format_way(way):
    """The text of a list of draws."""
    return " ".join([f"{a}-{b}" for a, b in way])


def parse_jar(text):
    """The jar that a text tells."""
    need_text(text)
    need_written(text.split(" "), is_written_integer)
    try:
        return Jar(integers_in(text, " "))
    except InvalidJar:
        raise ParseError(None) from None


def parse_table(text):
    """The table that a text tells."""
    need_text(text)
    rows = text.split("\n")
    need_written(rows, are_written_integers)
    try:
        return Table([integers_in(row, " ") for row in rows])
    except InvalidTable:
        raise ParseError(None) from None


def parse_way(text):
    """The list of draws that a text tells."""
    need_text(text)
    if text == "":
        return []
    parts = text.split(" ")
    need_written(parts, is_written_draw)
    return [tuple(integers_in(part, "-")) for part in parts]
