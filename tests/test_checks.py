import unittest
from itertools import permutations, product

from beanjars.checks import dispute, first_dispute, is_dispute, passes
from beanjars.jars import Jar, last_of
from beanjars.tables import Table
from samples import all_counts, all_rows, large_rows, no_sequences, rows_of, searched_last_beans

NOR = Table([[1, 0], [0, 0]])


def plain_disputes(rows):
    """All disputed triples, least first, by the words of the document."""
    colours = range(len(rows))
    return [(a, b, c) for a, b, c in product(colours, repeat=3) if rows[rows[a][b]][c] != rows[a][rows[b][c]]]


class FirstDisputeTest(unittest.TestCase):
    def test_all_tables_of_few_colours(self):
        for rows in list(all_rows(1)) + list(all_rows(2)) + list(all_rows(3)) + large_rows():
            triples = plain_disputes(rows)
            table = Table(rows)
            self.assertEqual(first_dispute(table), triples[0] if triples else None)
            self.assertIs(passes(table), not triples)
            self.assertEqual(table.rows(), rows)

    def test_kinds_of_results(self):
        self.assertEqual(first_dispute(NOR), (0, 0, 1))
        self.assertIsInstance(first_dispute(NOR), tuple)
        self.assertIsNone(first_dispute(Table([[0]])))
        self.assertIsNone(dispute(Table([[0]])))
        self.assertIsInstance(dispute(NOR), tuple)

    def test_by_name(self):
        self.assertEqual(first_dispute(table=NOR), (0, 0, 1))
        self.assertIs(passes(table=NOR), False)
        self.assertIs(is_dispute(table=NOR, value=dispute(table=NOR)), True)

    def test_a_late_dispute(self):
        rows = rows_of(8, max)
        rows[7][7] = 5
        self.assertEqual(first_dispute(Table(rows)), (6, 7, 7))

    def test_renaming_carries_over_the_check(self):
        for rows in all_rows(3):
            for names in permutations(range(3)):
                self.assertIs(passes(Table(rows).renamed(names)), passes(Table(rows)))


class GuaranteeTest(unittest.TestCase):
    def check(self, rows, most):
        known = {}
        many = [counts for counts in all_counts(len(rows), most) if len(searched_last_beans(rows, counts, known)) > 1]
        self.assertIs(passes(Table(rows)), not many)

    def test_passes_if_no_jar_has_two_last_beans(self):
        for rows in all_rows(2):
            self.check(rows, 7)
        for rows in all_rows(3):
            self.check(rows, 4)

    def test_more_colours(self):
        for rows in large_rows():
            if len(rows) in (4, 5):
                self.check(rows, 4)


class DisputeTest(unittest.TestCase):
    def test_a_dispute_shows_two_last_beans(self):
        found = 0
        for rows in list(all_rows(2)) + list(all_rows(3)) + large_rows():
            table = Table(rows)
            value = dispute(table)
            if passes(table):
                self.assertIsNone(value)
                continue
            jar, one, other = value
            self.assertIsInstance(jar, Jar)
            self.assertEqual(jar.total, 3)
            self.assertNotEqual(last_of(table, jar, one), last_of(table, jar, other))
            self.assertIs(is_dispute(table, value), True)
            found += 1
        self.assertGreater(found, 500)

    def test_results_are_new(self):
        dispute(NOR)[1].clear()
        self.assertEqual(len(dispute(NOR)[1]), 2)


class IsDisputeTest(unittest.TestCase):
    JAR = Jar([2, 1])
    LEFT = [(0, 0), (1, 1)]
    RIGHT = [(0, 1), (0, 0)]

    def test_right_disputes(self):
        self.assertIs(is_dispute(NOR, (self.JAR, self.LEFT, self.RIGHT)), True)
        self.assertIs(is_dispute(NOR, (self.JAR, self.RIGHT, self.LEFT)), True)

    def test_every_pair_of_ways(self):
        for rows in all_rows(2):
            table = Table(rows)
            draws = [(0, 0), (0, 1), (1, 1)]
            ways = [list(way) for way in product(draws, repeat=2)]
            for counts in product(range(4), repeat=2):
                ends = []
                for way in ways:
                    ends.append(self.end(rows, counts, way))
                for (one, first), (other, second) in product(zip(ways, ends), repeat=2):
                    expected = sum(counts) == 3 and first is not None and second is not None and first != second
                    self.assertIs(is_dispute(table, (Jar(counts), one, other)), expected)

    def end(self, rows, counts, way):
        left = list(counts)
        for a, b in way:
            left[a] -= 1
            left[b] -= 1
            if min(left) < 0:
                return None
            left[rows[a][b]] += 1
        return left.index(1) if sum(left) == 1 else None

    def test_values_of_other_kinds_and_shapes(self):
        for value in no_sequences() + [(), (self.JAR,), (self.JAR, self.LEFT), [self.JAR, self.LEFT, self.RIGHT],
                                       (self.JAR, self.LEFT, self.RIGHT, self.RIGHT),
                                       (self.LEFT, self.RIGHT, self.JAR)]:
            self.assertIs(is_dispute(NOR, value), False)

    def test_items_of_other_kinds(self):
        for value in no_sequences() + [[], (), [2, 1], (2, 1)]:
            self.assertIs(is_dispute(NOR, (value, self.LEFT, self.RIGHT)), False)
            self.assertIs(is_dispute(NOR, (self.JAR, value, self.RIGHT)), False)
            self.assertIs(is_dispute(NOR, (self.JAR, self.LEFT, value)), False)
            self.assertIs(is_dispute(NOR, (self.JAR, [value, (1, 1)], self.RIGHT)), False)
            self.assertIs(is_dispute(NOR, (self.JAR, self.LEFT, [(0, 1), value])), False)

    def test_ways_that_are_tuples(self):
        self.assertIs(is_dispute(NOR, (self.JAR, tuple(self.LEFT), self.RIGHT)), False)
        self.assertIs(is_dispute(NOR, (self.JAR, self.LEFT, tuple(self.RIGHT))), False)

    def test_ways_that_are_wrong(self):
        for way in ([], [(0, 0)], [(1, 1), (0, 0)], [(1, 0), (0, 0)], self.LEFT + [(0, 0)], [[0, 0], [1, 1]],
                    [(0, 0), (0, 1)]):
            self.assertIs(is_dispute(NOR, (self.JAR, way, self.RIGHT)), False)
            self.assertIs(is_dispute(NOR, (self.JAR, self.RIGHT, way)), False)

    def test_the_same_last_bean(self):
        self.assertIs(is_dispute(NOR, (self.JAR, self.LEFT, list(self.LEFT))), False)
        self.assertIs(is_dispute(NOR, (self.JAR, self.RIGHT, self.RIGHT)), False)

    def test_jars_of_other_sizes_and_totals(self):
        for counts in ([3], [2, 1, 0], [2, 1, 0, 0]):
            self.assertIs(is_dispute(NOR, (Jar(counts), self.LEFT, self.RIGHT)), False)
        four = Jar([4, 0])
        one, other = [(0, 0), (0, 1), (0, 0)], [(0, 0), (0, 0), (1, 1)]
        self.assertNotEqual(last_of(NOR, four, one), last_of(NOR, four, other))
        self.assertIs(is_dispute(NOR, (four, one, other)), False)
        self.assertIs(is_dispute(NOR, (Jar([0, 0]), [], [])), False)

    def test_tables_that_pass_have_no_dispute(self):
        table = Table([[0, 1], [1, 0]])
        self.assertIs(is_dispute(table, (self.JAR, [(0, 0), (0, 1)], [(0, 1), (0, 1)])), False)

    def test_nothing_is_modified(self):
        value = (Jar([2, 1]), [(0, 0), (1, 1)], [(0, 1), (0, 0)])
        is_dispute(NOR, value)
        self.assertEqual(value, (self.JAR, self.LEFT, self.RIGHT))


if __name__ == "__main__":
    unittest.main()
