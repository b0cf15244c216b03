import unittest
from itertools import permutations

from beanjars.errors import InvalidColour, InvalidRenaming, InvalidTable
from beanjars.tables import Table
from samples import Agreeable, Touchy, all_rows, no_colours, no_integers, no_renamings, no_sequences, rows_of


def sums(size):
    return rows_of(size, lambda a, b: (a + b) % size)


def products(size):
    return rows_of(size, lambda a, b: a * b % size)


def uneven(size):
    return rows_of(size, lambda a, b: (a * a + b * b + 3 * a * b + 1) % size)


def some_rows():
    return [make(size) for size in range(1, 9) for make in (sums, products, uneven, lambda k: rows_of(k, max))]


class TableTest(unittest.TestCase):
    def test_size_rows_and_colours(self):
        for rows in some_rows():
            for given in (rows, tuple(rows), [tuple(row) for row in rows], tuple(tuple(row) for row in rows)):
                table = Table(given)
                self.assertEqual(table.size, len(rows))
                self.assertEqual(len(table), len(rows))
                self.assertEqual(table.rows(), rows)
                for row in table.rows():
                    self.assertIsInstance(row, list)
                for a in range(len(rows)):
                    for b in range(len(rows)):
                        self.assertEqual(table[a, b], rows[a][b])

    def test_by_name(self):
        table = Table(rows=[[0, 1], [1, 1]])
        self.assertEqual(table.fold(colours=[0, 1]), 1)
        self.assertEqual(table.renamed(names=[1, 0]).rows(), [[0, 0], [0, 1]])

    def test_membership_of_any_value(self):
        for size in range(1, 9):
            table = Table(sums(size))
            for colour in range(size):
                self.assertIs(colour in table, True)
            for value in no_colours(size):
                self.assertIs(value in table, False)

    def test_equality(self):
        self.assertTrue(Table([[0, 1], [1, 0]]) == Table(((0, 1), (1, 0))))
        self.assertFalse(Table([[0, 1], [1, 0]]) != Table(((0, 1), (1, 0))))
        self.assertFalse(Table([[0, 1], [1, 0]]) == Table([[0, 1], [1, 1]]))
        self.assertTrue(Table([[0, 1], [1, 0]]) != Table([[0, 1], [1, 1]]))
        self.assertFalse(Table([[0]]) == Table([[0, 0], [0, 0]]))

    def test_no_equality_with_other_kinds(self):
        rows = [[0, 1], [1, 0]]
        table = Table(rows)
        for other in [rows, tuple(rows), ((0, 1), (1, 0)), None, 2, "x", object(), Agreeable(), Touchy()]:
            self.assertIs(table == other, False)
            self.assertIs(table != other, True)

    def test_tables_cannot_be_iterated(self):
        table = Table([[0, 1], [1, 0]])
        for use in (iter, list, tuple, sorted, sum):
            with self.assertRaises(TypeError):
                use(table)
        with self.assertRaises(TypeError):
            first, second = table

    def test_given_and_returned_lists_are_not_shared(self):
        rows = [[0, 1], [1, 0]]
        table = Table(rows)
        rows[0][0] = 1
        rows.append([0, 0])
        self.assertEqual(table.rows(), [[0, 1], [1, 0]])
        returned = table.rows()
        returned[0][1] = 7
        returned.pop()
        self.assertEqual(table.rows(), [[0, 1], [1, 0]])
        self.assertEqual(table[0, 1], 1)
        self.assertIsNot(table.rows()[0], table.rows()[0])

    def test_arguments_are_not_modified(self):
        rows, colours, names = [[0, 1], [1, 0]], [1, 1, 0], [1, 0]
        table = Table(rows)
        table.fold(colours)
        table.renamed(names)
        self.assertEqual((rows, colours, names), ([[0, 1], [1, 0]], [1, 1, 0], [1, 0]))


class FoldTest(unittest.TestCase):
    def test_from_the_left(self):
        table = Table([[1, 0], [0, 0]])
        self.assertEqual(table.fold([0, 0, 1]), 0)
        self.assertEqual(table.fold([0, 1, 0]), 1)
        self.assertEqual(table.fold((1, 0, 0)), 1)

    def test_one_bean(self):
        for colour in range(3):
            self.assertEqual(Table(uneven(3)).fold([colour]), colour)
            self.assertEqual(Table(uneven(3)).fold((colour,)), colour)

    def test_many_beans(self):
        self.assertEqual(Table(sums(7)).fold([3] * 1000), 3000 % 7)
        self.assertEqual(Table(rows_of(8, max)).fold([0, 5, 2, 7, 1]), 7)

    def test_wrong_arguments(self):
        table = Table(sums(3))
        for value in no_sequences() + [[], ()]:
            with self.assertRaises(InvalidColour) as caught:
                table.fold(value)
            self.assertIs(caught.exception.value, value)

    def test_first_wrong_bean(self):
        table = Table(sums(3))
        for value in no_colours(3):
            for colours in ([value], [value, 9], [0, 2, value, "x"], (1, value)):
                with self.assertRaises(InvalidColour) as caught:
                    table.fold(colours)
                self.assertIs(caught.exception.value, value)


class RenamedTest(unittest.TestCase):
    def test_renamed_results_at_renamed_colours(self):
        for rows in list(all_rows(2)) + [uneven(3), sums(4)]:
            table = Table(rows)
            for names in permutations(range(len(rows))):
                for given in (names, list(names)):
                    new = table.renamed(given)
                    self.assertIsInstance(new, Table)
                    for a in range(len(rows)):
                        for b in range(len(rows)):
                            self.assertEqual(new[names[a], names[b]], names[rows[a][b]])
                self.assertEqual(table.rows(), rows)

    def test_a_cycle_is_not_taken_backwards(self):
        table = Table([[1, 0, 0], [0, 0, 0], [0, 0, 0]])
        self.assertEqual(table.renamed([1, 2, 0]).rows(), [[1, 1, 1], [1, 2, 1], [1, 1, 1]])

    def test_wrong_renamings(self):
        for size in range(1, 5):
            for names in no_renamings(size):
                with self.assertRaises(InvalidRenaming):
                    Table(sums(size)).renamed(names)


class KeyTest(unittest.TestCase):
    def test_keys_that_are_no_pairs(self):
        table = Table(sums(2))
        for key in no_sequences() + [[], [0, 1], (), (0,), (0, 1, 0), (9, 9, 9), "01"]:
            with self.assertRaises(InvalidColour) as caught:
                table[key]
            self.assertIs(caught.exception.value, key)

    def test_first_item_that_is_no_colour(self):
        table = Table(sums(2))
        for value in no_colours(2):
            for key in ((value, 0), (1, value), (value, "x")):
                with self.assertRaises(InvalidColour) as caught:
                    table[key]
                self.assertIs(caught.exception.value, value)


class InvalidTableTest(unittest.TestCase):
    def check(self, rows, place):
        with self.assertRaises(InvalidTable) as caught:
            Table(rows)
        self.assertEqual(caught.exception.place, place)

    def test_rows_of_other_kinds_and_shapes(self):
        for rows in no_sequences() + [[], (), [[]], [[0, 0]], [[0], [0]], [[0, 0], [0]], [[0, 0], [0, 0, 0]],
                                      [[0, 0], [0, 0], [0, 0]], [0], [0, 1], ["0"], ["01", "01"],
                                      rows_of(9, max), [[0] * 9] * 9]:
            self.check(rows, None)

    def test_rows_with_one_wrong_row(self):
        for row in no_sequences():
            self.check([row], None)
            self.check([[0, 0], row], None)
            self.check([["x", 0], row], None)

    def test_the_form_is_checked_before_the_entries(self):
        self.check([[9, 9], [9]], None)
        self.check([[0, 1, 1], [0, 0, 0], {}], None)

    def test_entries_that_are_no_colours(self):
        for size in range(1, 4):
            for value in no_colours(size):
                for a in range(size):
                    for b in range(size):
                        rows = sums(size)
                        rows[a][b] = value
                        self.check(rows, (a, b))

    def test_true_and_false_are_no_colours(self):
        self.check([[False]], (0, 0))
        self.check([[0, True], [True, 0]], (0, 1))
        self.check([[0, 1], [True, 0]], (1, 0))

    def test_both_places_wrong(self):
        self.check([[0, 2], [2, 0]], (0, 1))
        self.check([[0, 1, 2], [1, 3, 0], [2, 0, -1]], (1, 1))

    def test_entry_that_differs_from_the_mirrored_one(self):
        for size in range(2, 9):
            for a in range(1, size):
                for b in range(a):
                    rows = sums(size)
                    rows[a][b] = (rows[a][b] + 1) % size
                    self.check(rows, (a, b))

    def test_first_place_row_by_row(self):
        self.check([[0, 1, 2], [0, 1, 7], [0, 0, 0]], (1, 0))
        self.check([[0, 1, 2], [1, 1, 7], [0, 0, 0]], (1, 2))
        self.check([[0, 1, 2], [1, 1, 1], [0, 0, 9]], (2, 0))
        self.check([[0, 1, 2], [1, 1, 1], [2, 0, 9]], (2, 1))

    def test_integers_of_many_digits(self):
        self.check([[10 ** 59]], (0, 0))
        self.check([[0, -10 ** 59], [0, 0]], (0, 1))

    def test_every_table_of_two_colours(self):
        for entries in [(a, b, c, d) for a in range(-1, 3) for b in range(-1, 3)
                        for c in range(-1, 3) for d in range(-1, 3)]:
            a, b, c, d = entries
            if min(entries) >= 0 and max(entries) < 2 and b == c:
                self.assertEqual(Table([[a, b], [c, d]]).rows(), [[a, b], [c, d]])
            else:
                with self.assertRaises(InvalidTable):
                    Table([[a, b], [c, d]])

    def test_no_integer_is_ever_an_entry(self):
        for value in no_integers():
            self.check([[value]], (0, 0))


if __name__ == "__main__":
    unittest.main()
