"""The console: a table and a session that are used by commands."""

from beanjars.checks import first_dispute
from beanjars.errors import InvalidCommand, NoJar, ParseError
from beanjars.groups import groups
from beanjars.possible import last_beans
from beanjars.products import last_bean, last_group
from beanjars.sessions import ADD, DRAW, Session, is_user
from beanjars.tables import Table
from beanjars.text_format import format_jar, format_way, joined, parse_jar, parse_table, parse_way

TABLE = "table"
JAR = "jar"
UNDO = "undo"
REDO = "redo"
WITHOUT_JAR = ("table", "jar", "check", "groups")
DONE = "ok"


def with_commas(integers):
    """The text of integers, separated by commas."""
    return joined(integers).replace(" ", ",")


def text_of_move(move):
    """The text of a move."""
    user, word, value = move
    text = format_way([value]) if word == DRAW else with_commas(value)
    return f"{user} {word} {text}"


def show(table, jar):
    """The text of the jar."""
    return format_jar(jar)


def check(table, jar):
    """Whether the table passes, or the first disputed colours."""
    triple = first_dispute(table)
    return "passes" if triple is None else joined(triple)


def all_groups(table, jar):
    """The groups of the table."""
    return " ".join([with_commas(part) for part in groups(table)])


def group(table, jar):
    """The group of the last bean."""
    return with_commas(last_group(table, jar))


def last(table, jar):
    """The last bean."""
    return str(last_bean(table, jar))


def possible(table, jar):
    """The possible last beans."""
    return joined(last_beans(table, jar))


def draws(table, jar):
    """The possible draws."""
    found = jar.draws()
    return format_way(found) if found else "-"


# The commands that change nothing.
ANSWERS = {
    "show": show,
    "check": check,
    "groups": all_groups,
    "group": group,
    "last": last,
    "possible": possible,
    "draws": draws,
}


def words_of(command):
    """The words of a command, which can be any value."""
    if not isinstance(command, str) or "\n" in command:
        raise InvalidCommand()
    words = command.split(" ")
    if "" in words:
        raise InvalidCommand()
    return words


def table_in(words):
    """The table whose rows are these words."""
    try:
        return parse_table("\n".join(words).replace(",", " "))
    except ParseError:
        raise InvalidCommand() from None


def jar_in(word):
    """The jar whose counts are this word."""
    try:
        return parse_jar(word.replace(",", " "))
    except ParseError:
        raise InvalidCommand() from None


def draw_in(word):
    """The draw that is this word."""
    try:
        return parse_way(word)[0]
    except ParseError:
        raise InvalidCommand() from None


def user_in(word):
    """The user that is this word."""
    if not is_user(word):
        raise InvalidCommand()
    return word


def parsed(command):
    """The first word of a command, which can be any value, and the list of the values that the other words tell."""
    words = words_of(command)
    word, others = words[0], words[1:]
    if word == TABLE:
        return (word, [table_in(others)])
    if word == JAR and len(others) == 1:
        return (word, [jar_in(others[0])])
    if word == DRAW and len(others) == 2:
        return (word, [user_in(others[0]), draw_in(others[1])])
    if word == ADD and len(others) == 2:
        return (word, [user_in(others[0]), jar_in(others[1])])
    if (word in ANSWERS or word in (UNDO, REDO)) and not others:
        return (word, [])
    raise InvalidCommand()


class Console:
    """A table, and a session with it, if a jar is given."""

    def __init__(self):
        self.present = Table([[0]])
        self.session = None

    def execute(self, command):
        """Carry a command out, and return its answer."""
        word, values = parsed(command)
        if self.session is None and word not in WITHOUT_JAR:
            raise NoJar()
        if word in (TABLE, JAR):
            return self.begin(word, values[0])
        if word in (DRAW, ADD):
            return self.move(word, values)
        if word in (UNDO, REDO):
            return self.repeat(word)
        answer = ANSWERS[word]
        return answer(self.present, None if self.session is None else self.session.jar)

    def begin(self, word, value):
        """Set the table and remove the jar, or start a session with a jar."""
        if word == TABLE:
            self.present, self.session = value, None
        else:
            self.session = Session(self.present, value)
        return DONE

    def move(self, word, values):
        """Make a move, and return the text of the jar."""
        user, value = values
        if word == DRAW:
            self.session.draw(user, value)
        else:
            self.session.add(user, value)
        return format_jar(self.session.jar)

    def repeat(self, word):
        """Undo or redo a move, and return its text."""
        return text_of_move(self.session.undo() if word == UNDO else self.session.redo())
