import inspect
import unittest

from beanjars.errors import InvalidDraw, InvalidUser, NothingToUndo, WrongSize
from beanjars.jars import Jar
from beanjars.possible import last_beans
from beanjars.products import last_bean, last_group
from beanjars.sessions import Session
from beanjars.tables import Table
from samples import Agreeable, Touchy, all_rows, mixed_rows, no_colours, no_sequences, passing_rows
from test_draws import no_draws, plain_after

NOR = Table([[1, 0], [0, 0]])
BIG = 10 ** 59 + 3
USERS = ["a", "z", "bob", "ann", "abcdefgh", "zzzzzzzz", "xy"]
NO_USERS = no_sequences() + [[], (), ["a"], ("a",), "", "A", "Bob", "boB", "a1", "1", "a b", " a", "a ", "a-b", "a_b",
                             "abcdefghi", "a" * 100, "a\n", "\na", "\n", "\u00e4", "\u00df", "\u0131", "\u03b1", "`",
                             "{", "a{", "@", b"a", b"bob", 97]


class Twin:
    """What a session should be like: the first jar, the moves, and those that were undone."""

    def __init__(self, rows, counts):
        self.rows = rows
        self.counts = [list(counts)]
        self.moves = []
        self.undone = []

    def make(self, move):
        user, word, value = move
        here = self.counts[-1]
        self.moves.append(move)
        if word == "draw":
            self.counts.append(plain_after(self.rows, here, value))
        else:
            self.counts.append([one + more for one, more in zip(here, value)])

    def undo(self):
        self.undone.append(self.moves.pop())
        self.counts.pop()
        return self.undone[-1]

    def redo(self):
        self.make(self.undone.pop())
        return self.moves[-1]


class SessionTest(unittest.TestCase):
    def compare(self, session, twin):
        """Compare all that a session tells with its twin."""
        self.assertEqual(session.table.rows(), twin.rows)
        self.assertEqual(session.jar.counts(), twin.counts[-1])
        self.assertEqual(session.moves, twin.moves)
        self.assertIsInstance(session.moves, list)
        self.assertEqual(len(session), len(twin.moves))
        self.assertEqual([jar.counts() for jar in session.history()], twin.counts)
        users = sorted({user for user, word, value in twin.moves})
        numbers = session.numbers()
        self.assertIsInstance(numbers, dict)
        self.assertEqual(list(numbers.items()), [
            (user, len([move for move in twin.moves if move[0] == user])) for user in users])

    def refused(self, session, twin):
        """Calls that raise errors, after which the session is as before."""
        size = len(twin.rows)
        here = twin.counts[-1]
        with self.assertRaises(InvalidUser):
            session.draw("Bob", (0, 0))
        with self.assertRaises(InvalidUser):
            session.add("", Jar([1] * size))
        with self.assertRaises(InvalidDraw):
            session.draw("bob", (0, size))
        with self.assertRaises(InvalidDraw):
            session.draw("bob", (size - 1, size - 1) if here[size - 1] < 2 else (1, 0))
        with self.assertRaises(WrongSize):
            session.add("bob", Jar([1] * (size % 8 + 1)))
        if not twin.moves:
            with self.assertRaises(NothingToUndo):
                session.undo()
        if not twin.undone:
            with self.assertRaises(NothingToUndo):
                session.redo()
        self.compare(session, twin)

    def play(self, rows, counts, seed, refuse):
        """Make many moves in a session and its twin, and compare them after each."""
        session, twin, state = Session(Table(rows), Jar(counts)), Twin(rows, counts), seed
        for _ in range(60):
            state = (state * 1103515245 + 12345) % 2 ** 31
            number, draws = state >> 8, session.jar.draws()
            user = USERS[number % len(USERS)]
            kind = number % 11
            if kind < 4 and draws:
                move = (user, "draw", draws[number % len(draws)])
                self.assertIsNone(session.draw(user, move[2]))
                twin.make(move)
                twin.undone = []
            elif kind < 6:
                move = (user, "add", tuple((number >> at) % 3 for at in range(len(rows))))
                self.assertIsNone(session.add(user, Jar(move[2])))
                twin.make(move)
                twin.undone = []
            elif kind < 9 and twin.moves:
                self.assertEqual(session.undo(), twin.undo())
            elif twin.undone:
                self.assertEqual(session.redo(), twin.redo())
            self.compare(session, twin)
            if refuse:
                self.refused(session, twin)

    def test_moves_undo_and_redo(self):
        for at, rows in enumerate(list(all_rows(2)) + [mixed_rows(size, 2) for size in range(1, 9)]):
            for seed in range(4):
                counts = [(seed + at * colour) % 4 for colour in range(len(rows))]
                self.play(rows, counts, 97 * at + seed + 1, seed % 2 == 1)

    def test_kinds_of_moves(self):
        session = Session(NOR, Jar([2, 1]))
        session.draw("bob", (0, 1))
        session.add("ann", Jar([0, BIG]))
        self.assertEqual(session.moves, [("bob", "draw", (0, 1)), ("ann", "add", (0, BIG))])
        self.assertIsInstance(session.moves[1][2], tuple)
        self.assertEqual(session.jar, Jar([2, BIG]))
        self.assertIsInstance(session.jar, Jar)
        self.assertEqual(session.table, NOR)
        self.assertEqual(session.undo(), ("ann", "add", (0, BIG)))
        self.assertEqual(session.undo(), ("bob", "draw", (0, 1)))
        self.assertEqual(session.redo(), ("bob", "draw", (0, 1)))
        self.assertEqual(session.redo(), ("ann", "add", (0, BIG)))

    def test_a_new_session(self):
        session = Session(jar=Jar([0, 0]), table=NOR)
        self.assertEqual((session.table, session.jar, session.moves, len(session)), (NOR, Jar([0, 0]), [], 0))
        self.assertEqual([jar.counts() for jar in session.history()], [[0, 0]])
        self.assertEqual(session.numbers(), {})

    def test_sizes(self):
        for size in (1, 3, 8):
            for count in (0, 1):
                with self.assertRaises(WrongSize):
                    Session(NOR, Jar([count] * size))

    def test_undo_takes_the_last_move_whoever_made_it(self):
        session = Session(NOR, Jar([3, 3]))
        session.draw("bob", (0, 0))
        session.draw("ann", (1, 1))
        self.assertEqual(session.undo(), ("ann", "draw", (1, 1)))
        self.assertEqual(session.undo(), ("bob", "draw", (0, 0)))
        with self.assertRaises(NothingToUndo):
            session.undo()
        self.assertEqual(session.redo()[0], "bob")
        session.draw("eve", (0, 1))
        for _ in range(2):
            with self.assertRaises(NothingToUndo):
                session.redo()
        self.assertEqual([move[0] for move in session.moves], ["bob", "eve"])

    def test_adding_makes_redo_impossible_too(self):
        session = Session(NOR, Jar([3, 3]))
        session.draw("bob", (0, 0))
        session.undo()
        session.add("ann", Jar([0, 0]))
        with self.assertRaises(NothingToUndo):
            session.redo()
        self.assertEqual(session.moves, [("ann", "add", (0, 0))])

    def test_what_was_undone_can_be_redone_after_errors(self):
        session = Session(NOR, Jar([3, 3]))
        session.draw("bob", (0, 0))
        session.undo()
        for user, draw, jar in (("Bob", (0, 0), Jar([1, 1])), (None, None, Jar([1])), ("", (0, 1), Jar([1, 1]))):
            with self.assertRaises(InvalidUser):
                session.draw(user, draw)
            with self.assertRaises(InvalidUser):
                session.add(user, jar)
        with self.assertRaises(InvalidDraw):
            session.draw("bob", (1, 0))
        with self.assertRaises(WrongSize):
            session.add("bob", Jar([1, 1, 1]))
        with self.assertRaises(NothingToUndo):
            session.undo()
        self.assertEqual(session.redo(), ("bob", "draw", (0, 0)))
        self.assertEqual(session.jar, Jar([1, 4]))

    def test_two_sessions_do_not_disturb_each_other(self):
        jar = Jar([3, 3])
        one, other = Session(NOR, jar), Session(NOR, jar)
        one.draw("bob", (0, 0))
        one.add("bob", Jar([1, 0]))
        one.undo()
        self.assertEqual((other.jar, other.moves, other.numbers(), len(other)), (Jar([3, 3]), [], {}, 0))
        with self.assertRaises(NothingToUndo):
            other.undo()
        with self.assertRaises(NothingToUndo):
            other.redo()
        other.draw("ann", (1, 1))
        self.assertEqual((one.jar, one.moves), (Jar([1, 4]), [("bob", "draw", (0, 0))]))
        self.assertEqual(one.redo(), ("bob", "add", (1, 0)))
        self.assertEqual(jar, Jar([3, 3]))

    def test_returned_lists_and_dicts_can_be_changed(self):
        session = Session(NOR, Jar([3, 3]))
        session.draw("bob", (0, 0))
        session.moves.clear()
        session.numbers().clear()
        list(session.history()).clear()
        self.assertEqual(session.moves, [("bob", "draw", (0, 0))])
        self.assertEqual(session.numbers(), {"bob": 1})
        self.assertEqual(len(list(session.history())), 2)

    def test_by_name(self):
        session = Session(NOR, Jar([3, 3]))
        session.draw(draw=(0, 0), user="bob")
        session.add(jar=Jar([1, 1]), user="ann")
        self.assertEqual(session.jar, Jar([2, 5]))


class HistoryTest(unittest.TestCase):
    def test_jars_up_to_the_one_that_is_current_when_the_first_is_taken(self):
        session = Session(NOR, Jar([3, 3]))
        session.draw("bob", (0, 0))
        jars = session.history()
        self.assertTrue(inspect.isgenerator(jars))
        session.draw("bob", (1, 1))
        self.assertEqual(next(jars), Jar([3, 3]))
        session.draw("ann", (0, 1))
        self.assertEqual([jar.counts() for jar in jars], [[1, 4], [2, 2]])
        self.assertEqual([jar.counts() for jar in session.history()], [[3, 3], [1, 4], [2, 2], [2, 1]])

    def test_undo_while_jars_are_taken(self):
        session = Session(NOR, Jar([3, 3]))
        session.draw("bob", (0, 0))
        session.draw("bob", (1, 1))
        jars = session.history()
        self.assertEqual(next(jars), Jar([3, 3]))
        session.undo()
        session.undo()
        session.add("ann", Jar([5, 5]))
        self.assertEqual([jar.counts() for jar in jars], [[1, 4], [2, 2]])

    def test_undo_before_the_first_is_taken(self):
        session = Session(NOR, Jar([3, 3]))
        session.draw("bob", (0, 0))
        jars = session.history()
        session.undo()
        self.assertEqual([jar.counts() for jar in jars], [[3, 3]])
        jars = session.history()
        session.redo()
        self.assertEqual([jar.counts() for jar in jars], [[3, 3], [1, 4]])


class NumbersTest(unittest.TestCase):
    def test_sorted_by_user(self):
        session = Session(NOR, Jar([9, 9]))
        for user in ("zoe", "ann", "bob", "ann", "zoe", "ann", "b"):
            session.add(user, Jar([1, 0]))
        self.assertEqual(list(session.numbers().items()), [("ann", 3), ("b", 1), ("bob", 1), ("zoe", 2)])
        session.undo()
        self.assertEqual(list(session.numbers()), ["ann", "bob", "zoe"])
        session.redo()
        self.assertEqual(session.numbers()["b"], 1)


class WrongArgumentsTest(unittest.TestCase):
    def test_users(self):
        session = Session(NOR, Jar([9, 9]))
        for user in NO_USERS:
            for draw in ((0, 0), (1, 0), None):
                with self.assertRaises(InvalidUser) as caught:
                    session.draw(user, draw)
                self.assertIs(caught.exception.value, user)
            for jar in (Jar([1, 1]), Jar([1])):
                with self.assertRaises(InvalidUser) as caught:
                    session.add(user, jar)
                self.assertIs(caught.exception.value, user)
        self.assertEqual((session.jar, session.moves), (Jar([9, 9]), []))
        for user in USERS:
            session.add(user, Jar([0, 1]))
        self.assertEqual(session.jar, Jar([9, 9 + len(USERS)]))

    def test_draws(self):
        session = Session(NOR, Jar([3, 3]))
        for draw in no_draws() + [Agreeable(), Touchy(), (Touchy(), 1)] + [(value, value) for value in no_colours(2)]:
            with self.assertRaises(InvalidDraw) as caught:
                session.draw("bob", draw)
            self.assertIs(caught.exception.value, draw)
        self.assertEqual((session.jar, session.moves), (Jar([3, 3]), []))
        for counts, draw in (([1, 0], (0, 0)), ([1, 0], (0, 1)), ([0, 1], (1, 1)), ([0, 0], (0, 0))):
            with self.assertRaises(InvalidDraw):
                Session(NOR, Jar(counts)).draw("bob", draw)

    def test_jars(self):
        session = Session(NOR, Jar([3, 3]))
        for size in (1, 3, 8):
            with self.assertRaises(WrongSize):
                session.add("bob", Jar([0] * size))
        self.assertEqual((session.jar, session.moves), (Jar([3, 3]), []))


class GuaranteesTest(unittest.TestCase):
    def test_draws_never_change_the_group_and_keep_last_beans_among_those_before(self):
        for at, rows in enumerate(list(all_rows(2)) + list(all_rows(3))[::37] + [mixed_rows(size, 1)
                                                                                for size in range(4, 9)]):
            table = Table(rows)
            for seed in range(3):
                session = Session(table, Jar([2 + (seed + colour) % 3 if colour < 3 else 1
                                              for colour in range(len(rows))][:6] + [0] * (len(rows) - 6)))
                group, beans = last_group(table, session.jar), None
                while session.jar.total > 1:
                    draws = session.jar.draws()
                    session.draw("bob", draws[(seed * 5 + at + len(session)) % len(draws)])
                    self.assertEqual(last_group(table, session.jar), group)
                    if session.jar.total < 9:
                        found = last_beans(table, session.jar)
                        self.assertTrue(beans is None or set(found) <= set(beans))
                        beans = found
                self.assertIn(session.jar.colours()[0], group)

    def test_the_last_bean_of_tables_that_pass(self):
        for rows in passing_rows()[::3]:
            table = Table(rows)
            session = Session(table, Jar([3, 2, 2, 1, 1, 1, 1, 1][:len(rows)]))
            bean = last_bean(table, session.jar)
            while session.jar.total > 1:
                session.draw("ann", session.jar.draws()[-1])
                self.assertEqual(last_bean(table, session.jar), bean)
            self.assertEqual(session.jar.colours(), [bean])


if __name__ == "__main__":
    unittest.main()
