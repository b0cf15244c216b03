import unittest

from beanjars.checks import first_dispute
from beanjars.console import Console
from beanjars.errors import Disputed, EmptyJar, InvalidCommand, InvalidDraw, LimitExceeded, NoJar, NothingToUndo, \
    WrongSize
from beanjars.groups import groups
from beanjars.jars import Jar
from beanjars.possible import last_beans
from beanjars.products import last_bean, last_group
from beanjars.sessions import Session
from beanjars.tables import Table
from beanjars.text_format import format_jar, format_way
from samples import Agreeable, Touchy, all_rows, large_rows, mixed_rows, no_sequences, some_rows
from test_sessions import NO_USERS

BIG = 10 ** 60 - 1
NEED_JAR = ["draw bob 0-0", "add bob 1", "undo", "redo", "show", "group", "last", "possible", "draws"]
WRONG = [
    "", " ", "  ", "\n", "show ", " show", "show  ", "show\n", "\nshow", "show show", "show 1", "Show", "SHOW", "sho",
    "shows", "help", "check check", "check 0", "groups 0", "group 0", "last 0", "possible 0", "draws 0", "undo 1",
    "undo undo", "redo 1", "undo bob", "check\t", "\tcheck", "draws -", "ok", "0", "-", "0-0", "1,0",
    "table", "table ", "table  0", "table 0 ", " table 0", "table 1", "table x", "table 0,0", "table 0 0", "table 00",
    "table -0", "table +0", "table 0,", "table ,0", "table 0,1 0,0", "table 0,1 1,2", "table 0,0 0", "table 0,0  0,0",
    "table 0,0,0 0,0,0 0,0", "table 0,0\n0,0", "table 0,0 0,0\n", "table 0;0 0;0", "table 0 0 0,0", "table 0,,0 0,0",
    "table " + " ".join(["0,0,0,0,0,0,0,0,0"] * 9), "table 0,0 0,01", "table 0.0", "table \u0660", "Table 0",
    "table 0,0 0,0 ok", "table 0, 0 0, 0", "tables 0", "table\t0", "table 0\t", "table 9" + "9" * 60,
    "jar", "jar ", "jar  1", "jar 1 ", "jar x", "jar 1,", "jar ,1", "jar 1,,2", "jar 1 2", "jar 01", "jar -1", "jar +1",
    "jar 1.0", "jar 1,2,3,4,5,6,7,8,9", "jar 1,x", "jar " + "9" * 61, "jar 1,2\n", "jar 1\n2", "jar \u0661", "jar 1\t",
    "jar 1,2 3", "Jar 1", "jars 1", "jar ,", "jar", "jar none",
    "draw", "draw bob", "draw bob ", "draw  0-0", "draw 0-0", "draw bob 0-0 0-0", "draw bob  0-0", "draw  bob 0-0",
    "draw bob 0-0 ",
    "draw Bob 0-0", "draw bob1 0-0", "draw abcdefghi 0-0", "draw bob 0", "draw bob 0-", "draw bob -0", "draw bob -",
    "draw bob 1-0", "draw bob 0--1", "draw bob 00-1", "draw bob 0-01", "draw bob 0-0-0", "draw bob 0,0", "draw bob x-y",
    "draw bob +0-1", "draw bob 0-" + "9" * 61, "draw bob 0-0\n", "draw bob\n 0-0", "draw b\u00f6b 0-0", "draw 0-0 bob",
    "draw bob ann 0-0", "draw bob 0-\u0660", "draws bob 0-0", "Draw bob 0-0",
    "add", "add bob", "add 1", "add bob  1", "add bob 1 ", "add bob 1 1", "add Bob 1", "add bob x", "add bob 1,",
    "add bob ,1", "add bob 1,,1", "add bob 01", "add bob -1", "add bob 1,2,3,4,5,6,7,8,9", "add abcdefghi 1",
    "add bob " + "9" * 61, "add bob 1\n", "add 1 bob", "adds bob 1", "Add bob 1", "add bob \u0661",
]


def with_commas(integers):
    return ",".join(str(number) for number in integers)


class Beside:
    """What the console should answer, from a session and the functions of the package."""

    def __init__(self):
        self.table = Table([[0]])
        self.session = None

    def answers(self):
        """The answers to all commands that change nothing, or the classes of their errors."""
        table, jar = self.table, None if self.session is None else self.session.jar
        triple = first_dispute(table)
        found = {
            "check": "passes" if triple is None else "{} {} {}".format(*triple),
            "groups": " ".join(with_commas(part) for part in groups(table)),
        }
        if jar is None:
            found.update((word, NoJar) for word in ("show", "group", "last", "possible", "draws"))
            return found
        found["show"] = format_jar(jar)
        found["draws"] = format_way(jar.draws()) or "-"
        found["group"] = self.told(lambda: with_commas(last_group(table, jar)))
        found["last"] = self.told(lambda: str(last_bean(table, jar)))
        found["possible"] = self.told(lambda: " ".join(str(colour) for colour in last_beans(table, jar)))
        return found

    def told(self, call):
        """The result of a call, or the class of its error."""
        try:
            return call()
        except (EmptyJar, Disputed, LimitExceeded) as error:
            return error.__class__


class ConsoleTest(unittest.TestCase):
    def compare(self, console, beside):
        """Compare the answers to all commands that change nothing."""
        for command, expected in beside.answers().items():
            if isinstance(expected, str):
                answer = console.execute(command)
                self.assertIsInstance(answer, str)
                self.assertEqual(answer, expected, command)
            else:
                with self.assertRaises(expected):
                    console.execute(command)

    def run_command(self, console, command, expected):
        """Carry a command out, whose answer or error is given by a call."""
        try:
            wanted = expected()
        except (InvalidDraw, WrongSize, NothingToUndo) as error:
            with self.assertRaises(error.__class__) as caught:
                console.execute(command)
            self.assertEqual(vars(caught.exception), vars(error))
        else:
            self.assertEqual(console.execute(command), wanted)

    def start(self, rows, counts):
        """A console with a table and a jar, and what it should be like."""
        console, beside = Console(), Beside()
        self.assertEqual(console.execute("table " + " ".join(with_commas(row) for row in rows)), "ok")
        beside.table = Table(rows)
        self.compare(console, beside)
        self.assertEqual(console.execute("jar " + with_commas(counts)), "ok")
        beside.session = Session(beside.table, Jar(counts))
        self.compare(console, beside)
        return console, beside

    def play(self, rows, counts, seed):
        """Make many moves on a console and beside it, and compare all answers after each."""
        console, beside = self.start(rows, counts)
        session, state, size = beside.session, seed, len(rows)
        for _ in range(40):
            state = (state * 1103515245 + 12345) % 2 ** 31
            number = state >> 8
            user, kind = ["bob", "ann", "zzzzzzzz", "a"][number % 4], number % 9
            a, b = sorted((number // 3 % (size + 1), number // 7 % size))
            counts = [number // (at + 2) % 3 for at in range(size + (1 if number % 23 == 0 and size < 8 else 0))]
            if kind < 4:
                draws = session.jar.draws()
                draw = draws[number % len(draws)] if draws and kind < 3 else (a, b)
                self.run_command(console, f"draw {user} {draw[0]}-{draw[1]}",
                                 lambda: session.draw(user, draw) or format_jar(session.jar))
            elif kind < 6:
                self.run_command(console, f"add {user} {with_commas(counts)}",
                                 lambda: session.add(user, Jar(counts)) or format_jar(session.jar))
            elif kind < 8:
                self.run_command(console, "undo", lambda: self.text(session.undo()))
            else:
                self.run_command(console, "redo", lambda: self.text(session.redo()))
            self.compare(console, beside)

    def text(self, move):
        user, word, value = move
        return f"{user} {word} " + (format_way([value]) if word == "draw" else with_commas(value))

    def test_moves_against_a_session(self):
        for at, rows in enumerate(list(all_rows(2)) + [mixed_rows(size, 2) for size in range(1, 9)]):
            for seed in range(3):
                counts = [(seed + at * colour) % 4 if colour < 4 else 0 for colour in range(len(rows))]
                self.play(rows, counts, 91 * at + seed + 1)

    def test_every_table(self):
        for rows in some_rows()[::7] + large_rows():
            console, beside = self.start(rows, [1, 2, 1, 0, 1, 0, 0, 1][:len(rows)])
            self.assertEqual(console.execute("show"), "1 2 1 0 1 0 0 1"[:2 * len(rows) - 1])

    def test_a_new_console(self):
        console = Console()
        self.compare(console, Beside())
        self.assertEqual((console.execute("check"), console.execute("groups")), ("passes", "0"))
        self.assertEqual(console.execute("jar 3"), "ok")
        self.assertEqual((console.execute("last"), console.execute("draws")), ("0", "0-0"))
        for command in ("jar 1,1",):
            with self.assertRaises(WrongSize):
                console.execute(command)
        self.assertEqual(console.execute("show"), "3")

    def test_answers(self):
        console = Console()
        for command, answer in (
                ("table 1,0,0 0,0,0 0,0,2", "ok"), ("check", "0 0 1"), ("groups", "0,1 2"), ("jar 2,1,0", "ok"),
                ("show", "2 1 0"), ("group", "0,1"), ("possible", "0 1"), ("draws", "0-0 0-1"),
                ("draw bob 0-1", "2 0 0"), ("add ann 0,0,10", "2 0 10"), ("undo", "ann add 0,0,10"),
                ("undo", "bob draw 0-1"), ("redo", "bob draw 0-1"), ("draw bob 0-0", "0 1 0"), ("draws", "-"),
                ("possible", "1"), ("group", "0,1"), ("table 0,1 1,0", "ok"), ("check", "passes"), ("groups", "0 1"),
                ("jar 7," + str(BIG), "ok"), ("show", "7 " + str(BIG)), ("last", "1"), ("group", "1"),
                ("draw a 0-1", "6 " + str(BIG)), ("jar 0,0", "ok"), ("draws", "-"), ("show", "0 0")):
            self.assertEqual(console.execute(command), answer)

    def test_the_table_command_removes_the_jar(self):
        console = Console()
        console.execute("jar 3")
        console.execute("draw bob 0-0")
        self.assertEqual(console.execute("table 0"), "ok")
        for command in NEED_JAR:
            with self.assertRaises(NoJar):
                console.execute(command)
        self.assertEqual(console.execute("jar 2"), "ok")
        for command in ("undo", "redo"):
            with self.assertRaises(NothingToUndo):
                console.execute(command)
        self.assertEqual(console.execute("show"), "2")

    def test_the_jar_command_starts_a_new_session(self):
        console = Console()
        console.execute("table 0,1 1,0")
        console.execute("jar 3,3")
        console.execute("draw bob 0-0")
        console.execute("undo")
        self.assertEqual(console.execute("jar 1,2"), "ok")
        for command in ("undo", "redo"):
            with self.assertRaises(NothingToUndo):
                console.execute(command)
        self.assertEqual((console.execute("show"), console.execute("groups")), ("1 2", "0 1"))

    def test_a_draw_makes_redo_impossible(self):
        console, beside = self.start([[0, 1], [1, 0]], [3, 3])
        console.execute("draw bob 0-0")
        self.assertEqual(console.execute("undo"), "bob draw 0-0")
        console.execute("draw bob 1-1")
        with self.assertRaises(NothingToUndo):
            console.execute("redo")

    def test_two_consoles_do_not_disturb_each_other(self):
        one, other = Console(), Console()
        one.execute("table 0,1 1,0")
        one.execute("jar 3,3")
        self.assertEqual(other.execute("groups"), "0")
        with self.assertRaises(NoJar):
            other.execute("show")
        other.execute("jar 5")
        one.execute("draw bob 0-0")
        with self.assertRaises(NothingToUndo):
            other.execute("undo")
        self.assertEqual((one.execute("show"), other.execute("show")), ("2 3", "5"))

    def test_by_name(self):
        self.assertEqual(Console().execute(command="check"), "passes")


class ErrorsTest(unittest.TestCase):
    def consoles(self):
        """Consoles without and with a jar, with moves and with a move that was undone, and their jars."""
        fresh, started, moved = Console(), Console(), Console()
        started.execute("jar 3")
        moved.execute("table 0,1 1,0")
        moved.execute("jar 3,3")
        for command in ("draw bob 0-0", "draw ann 1-1", "undo"):
            moved.execute(command)
        return [(fresh, None), (started, "3"), (moved, "2 3")]

    def unchanged(self, console, jar):
        """Check that a console is as it was returned by consoles, at last by undoing and redoing its moves."""
        if jar is None:
            with self.assertRaises(NoJar):
                console.execute("show")
        else:
            self.assertEqual(console.execute("show"), jar)
        if jar == "2 3":
            self.assertEqual(console.execute("groups"), "0 1")
            self.assertEqual(console.execute("redo"), "ann draw 1-1")
            self.assertEqual(console.execute("undo"), "ann draw 1-1")
            self.assertEqual(console.execute("undo"), "bob draw 0-0")
            self.assertEqual(console.execute("redo"), "bob draw 0-0")
        else:
            for command in ("undo", "redo"):
                with self.assertRaises(NoJar if jar is None else NothingToUndo):
                    console.execute(command)

    def test_commands_of_no_form(self):
        for console, jar in self.consoles():
            for command in WRONG:
                with self.assertRaises(InvalidCommand, msg=command):
                    console.execute(command)
            self.unchanged(console, jar)

    def test_values_of_any_kind(self):
        values = [value for value in no_sequences() if not isinstance(value, str)]
        values += [[], (), ["show"], ("show",), b"show", Agreeable(), Touchy(), {"show": 1}]
        for console, jar in self.consoles():
            for command in values:
                with self.assertRaises(InvalidCommand):
                    console.execute(command)
            self.unchanged(console, jar)

    def test_words_that_are_no_users(self):
        for console, jar in self.consoles():
            for user in NO_USERS:
                if isinstance(user, str):
                    for command in (f"draw {user} 0-0", f"add {user} 1", f"add {user} 1,1"):
                        with self.assertRaises(InvalidCommand):
                            console.execute(command)
            self.unchanged(console, jar)

    def test_more_spaces_and_other_signs(self):
        right = ["table 0,1 1,0", "jar 1,2", "draw bob 0-0", "add bob 1,0", "undo", "redo", "show", "check", "groups",
                 "group", "last", "possible", "draws"]
        for console, jar in self.consoles():
            for command in right:
                texts = [" " + command, command + " ", command + "\n", "\n" + command, command + " x",
                         command.replace(" ", "\n", 1) if " " in command else command + "\t", command.title(),
                         command.replace(" ", "  ", 1) if " " in command else command * 2,
                         command.replace(" ", "\t", 1) if " " in command else "\t" + command]
                for text in texts:
                    with self.assertRaises(InvalidCommand, msg=text):
                        console.execute(text)
            self.unchanged(console, jar)

    def test_no_jar_after_the_form(self):
        console = Console()
        for command in NEED_JAR + ["draw bob 5-9", "draw bob 0-1", "add bob 1,2,3", "add bob 0,0,0,0,0,0,0,0"]:
            with self.assertRaises(NoJar):
                console.execute(command)
        for command in ("draw bob 1-0", "draw Bob 0-0", "add bob 1,2,3,4,5,6,7,8,9", "add bob x", "undo 1"):
            with self.assertRaises(InvalidCommand):
                console.execute(command)
        self.unchanged(console, None)

    def test_errors_of_the_other_points(self):
        for console, jar in self.consoles():
            if jar is None:
                with self.assertRaises(WrongSize):
                    console.execute("jar 1,2,3")
            else:
                for command in ("draw bob 5-9", "draw bob 0-2", "draw bob 0-" + "9" * 60):
                    with self.assertRaises(InvalidDraw) as caught:
                        console.execute(command)
                    first, second = command.split(" ")[2].split("-")
                    self.assertEqual(caught.exception.value, (int(first), int(second)))
                for command in ("add bob 1,2,3", "jar 1,2,3", "jar 0,0,0,0,0,0,0,0"):
                    with self.assertRaises(WrongSize):
                        console.execute(command)
            self.unchanged(console, jar)

    def test_draws_of_beans_that_are_not_there(self):
        console = Console()
        console.execute("table 0,1 1,0")
        console.execute("jar 1,0")
        for command in ("draw bob 0-0", "draw bob 0-1", "draw bob 1-1"):
            with self.assertRaises(InvalidDraw):
                console.execute(command)
        self.assertEqual(console.execute("show"), "1 0")

    def test_empty_jars_disputes_and_limits(self):
        console = Console()
        console.execute("table 1,0 0,0")
        console.execute("jar 0,0")
        for command in ("group", "possible"):
            with self.assertRaises(EmptyJar):
                console.execute(command)
        with self.assertRaises(Disputed) as caught:
            console.execute("last")
        self.assertEqual(caught.exception.triple, (0, 0, 1))
        console.execute("jar 1,99")
        self.assertEqual(console.execute("possible"), "0 1")
        console.execute("add bob 0,1")
        with self.assertRaises(LimitExceeded) as caught:
            console.execute("possible")
        self.assertEqual(caught.exception.limit, 200)
        self.assertEqual(console.execute("group"), "0,1")
        console.execute("table 0,1 1,0")
        console.execute("jar 0,0")
        with self.assertRaises(EmptyJar):
            console.execute("last")


if __name__ == "__main__":
    unittest.main()
