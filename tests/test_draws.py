import unittest
from itertools import product

from beanjars.errors import EmptyJar, InvalidDraw, InvalidWay, WrongSize
from beanjars.jars import Jar, after, last_of, played
from beanjars.tables import Table
from samples import all_counts, no_integers, no_sequences, rows_of

XOR = Table([[0, 1], [1, 0]])
NOR = Table([[1, 0], [0, 0]])
SUMS = Table(rows_of(3, lambda a, b: (a + b) % 3))
BIG = 10 ** 29 + 3


def no_draws():
    """Values that are not a draw of any jar with two colours."""
    return no_sequences() + [[], [0, 0], [0, 1], (), (0,), (0, 0, 1), (1, 0), (0, 2), (-1, 0), (-1, -1), (2, 2),
                             ((0, 1),), "01"] + [(0, value) for value in no_integers()] + [
                                 (value, 1) for value in no_integers()]


def plain_draws(counts):
    """The possible draws, by the words of the document."""
    size = len(counts)
    return [(a, b) for a in range(size) for b in range(size)
            if (a < b and counts[a] >= 1 and counts[b] >= 1) or (a == b and counts[a] >= 2)]


def plain_after(rows, counts, draw):
    """The counts after a draw, by the words of the document."""
    left = list(counts)
    for colour in draw:
        left[colour] -= 1
    left[rows[draw[0]][draw[1]]] += 1
    return left


class DrawsTest(unittest.TestCase):
    def test_possible_draws_are_sorted(self):
        self.assertEqual(Jar([2, 1, 0, 3]).draws(), [(0, 0), (0, 1), (0, 3), (1, 3), (3, 3)])
        for counts in list(product(range(4), repeat=3)) + [(BIG, 0, 1)]:
            self.assertEqual(Jar(counts).draws(), plain_draws(counts))

    def test_few_beans(self):
        for counts in ([0], [1], [0, 0], [0, 1]):
            self.assertEqual(Jar(counts).draws(), [])
        self.assertEqual(Jar([2]).draws(), [(0, 0)])

    def test_eight_colours(self):
        self.assertEqual(len(Jar([2] * 8).draws()), 36)
        self.assertEqual(len(Jar([1] * 8).draws()), 28)

    def test_can_draw(self):
        for counts in product(range(3), repeat=3):
            jar, possible = Jar(counts), plain_draws(counts)
            for draw in product(range(-1, 4), repeat=2):
                self.assertIs(jar.can_draw(draw), draw in possible)

    def test_can_draw_takes_any_value(self):
        for value in no_draws():
            self.assertIs(Jar([3, 3]).can_draw(value), False)

    def test_true_and_false_are_no_colours(self):
        for draw in ((False, True), (0, True), (False, 0), (False, 1), (True, True)):
            self.assertIs(Jar([3, 3]).can_draw(draw), False)


class AfterTest(unittest.TestCase):
    def test_jar_after_each_draw(self):
        for table in (SUMS, Table([[2, 0, 1], [0, 0, 2], [1, 2, 1]]), Table([[0] * 3] * 3)):
            for counts in product(range(4), repeat=3):
                for draw in plain_draws(counts):
                    new = after(table, Jar(counts), draw)
                    self.assertIsInstance(new, Jar)
                    self.assertEqual(new.counts(), plain_after(table.rows(), counts, draw))

    def test_one_bean_of_the_tables_colour(self):
        self.assertEqual(after(NOR, Jar([2, 0]), (0, 0)).counts(), [0, 1])
        self.assertEqual(after(NOR, Jar([1, 1]), (0, 1)).counts(), [1, 0])
        self.assertEqual(after(NOR, Jar([BIG, 1]), (0, 0)).counts(), [BIG - 2, 2])

    def test_by_name(self):
        self.assertEqual(after(table=NOR, jar=Jar([2, 0]), draw=(0, 0)).counts(), [0, 1])

    def test_jar_and_table_do_not_change(self):
        jar, table = Jar([2, 1]), Table([[1, 0], [0, 0]])
        after(table, jar, (0, 1))
        with self.assertRaises(InvalidDraw):
            after(table, jar, (1, 1))
        self.assertEqual((jar.counts(), table.rows()), ([2, 1], [[1, 0], [0, 0]]))

    def test_draws_that_are_not_possible(self):
        for value in no_draws():
            with self.assertRaises(InvalidDraw) as caught:
                after(XOR, Jar([3, 3]), value)
            self.assertIs(caught.exception.value, value)
        for counts, draw in (([1, 1], (0, 0)), ([1, 1], (1, 1)), ([2, 0], (0, 1)), ([0, 2], (0, 1)),
                             ([1, 0], (0, 0)), ([0, 0], (0, 0))):
            with self.assertRaises(InvalidDraw) as caught:
                after(XOR, Jar(counts), draw)
            self.assertIs(caught.exception.value, draw)

    def test_size_before_draw(self):
        for jar in (Jar([2]), Jar([2, 2, 2]), Jar([0]), Jar([0, 0, 0])):
            for draw in ((0, 0), None, (0, 2)):
                with self.assertRaises(WrongSize):
                    after(XOR, jar, draw)


def all_ways(rows, counts):
    """All ways of a jar with beans, each with the counts of its jars."""
    if sum(counts) == 1:
        yield [], [list(counts)]
    for draw in plain_draws(counts):
        for way, jars in all_ways(rows, plain_after(rows, counts, draw)):
            yield [draw] + way, [list(counts)] + jars


class WaysTest(unittest.TestCase):
    def test_jars_and_last_beans_of_all_ways(self):
        seen = 0
        for table in (XOR, NOR):
            for counts in all_counts(2, 5):
                for way, jars in all_ways(table.rows(), counts):
                    result = played(table, Jar(counts), way)
                    self.assertIsInstance(result, list)
                    self.assertEqual([jar.counts() for jar in result], jars)
                    self.assertEqual(last_of(table, Jar(counts), way), jars[-1].index(1))
                    seen += 1
        self.assertGreater(seen, 100)

    def test_one_bean_has_the_empty_way(self):
        for colour in range(3):
            jar = Jar.of_beans(3, [colour])
            self.assertEqual(played(SUMS, jar, []), [jar])
            self.assertEqual(last_of(SUMS, jar, []), colour)

    def test_by_name(self):
        jar = Jar([2, 0])
        self.assertEqual(played(table=NOR, jar=jar, way=[(0, 0)]), [jar, Jar([0, 1])])
        self.assertEqual(last_of(table=NOR, jar=jar, way=[(0, 0)]), 1)

    def test_a_long_way(self):
        table = Table([[0, 1], [1, 1]])
        jar, way = Jar([3000, 1]), [(0, 0)] * 2999 + [(0, 1)]
        self.assertEqual(len(played(table, jar, way)), 3001)
        self.assertEqual(last_of(table, jar, way), 1)

    def test_nothing_is_modified(self):
        jar, way = Jar([2, 1]), [(0, 1), (0, 0)]
        played(NOR, jar, way).clear()
        last_of(NOR, jar, way)
        self.assertEqual((jar.counts(), way, NOR.rows()), ([2, 1], [(0, 1), (0, 0)], [[1, 0], [0, 0]]))
        with self.assertRaises(InvalidWay):
            played(NOR, jar, [(0, 1), (1, 1)])
        self.assertEqual(jar.counts(), [2, 1])

    def check(self, table, jar, way, index):
        for function in (played, last_of):
            with self.assertRaises(InvalidWay) as caught:
                function(table, jar, way)
            self.assertEqual(caught.exception.index, index)

    def test_ways_that_are_no_lists(self):
        for way in no_sequences() + [(), ((0, 1), (0, 0)), (9,)]:
            self.check(NOR, Jar([2, 1]), way, None)
            self.check(NOR, Jar([1, 0]), way, None)

    def test_first_item_that_is_not_possible(self):
        for value in no_draws():
            self.check(XOR, Jar([3, 3]), [value], 0)
            self.check(XOR, Jar([3, 3]), [(0, 1), value, (0, 0)], 1)
            self.check(XOR, Jar([3, 3]), [(0, 1), (1, 1), value, value], 2)
        self.check(NOR, Jar([2, 1]), [(0, 1), (0, 1)], 1)
        self.check(NOR, Jar([2, 1]), [(1, 1)], 0)

    def test_draws_after_the_last_bean(self):
        self.check(NOR, Jar([2, 0]), [(0, 0), (0, 0)], 1)
        self.check(NOR, Jar([2, 0]), [(0, 0), (1, 1), None], 1)
        self.check(NOR, Jar([0, 1]), [(1, 1)], 0)
        self.check(NOR, Jar([0, 1]), [None], 0)

    def test_more_than_one_bean_left(self):
        self.check(NOR, Jar([2, 1]), [], 0)
        self.check(NOR, Jar([2, 1]), [(0, 1)], 1)
        self.check(NOR, Jar([0, 2]), [], 0)
        self.check(NOR, Jar([4, 4]), [(0, 0), (1, 1), (0, 1)], 3)
        self.check(NOR, Jar([BIG, BIG]), [(0, 0)], 1)

    def test_order_of_the_errors(self):
        for function in (played, last_of):
            for way in ([], None, [9]):
                for jar in (Jar([1]), Jar([0]), Jar([0, 0, 0]), Jar([1, 1, 1])):
                    with self.assertRaises(WrongSize):
                        function(NOR, jar, way)
                with self.assertRaises(EmptyJar):
                    function(NOR, Jar([0, 0]), way)


if __name__ == "__main__":
    unittest.main()
