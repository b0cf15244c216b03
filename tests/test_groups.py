import unittest
from itertools import permutations, product

from beanjars.checks import passes
from beanjars.groups import groups, quotient
from beanjars.tables import Table
from samples import DEEP, LINKED, all_counts, all_divisions, all_rows, joined_groups, mixed_rows, rows_of, \
    searched_last_beans, some_rows


def numbers_of(division, size):
    """For each colour the index of its part."""
    return [next(at for at, part in enumerate(division) if colour in part) for colour in range(size)]


def has_first_property(rows, division):
    """Whether colours of one part have, with each colour, beans of one part."""
    number = numbers_of(division, len(rows))
    colours = range(len(rows))
    return all(number[rows[a][c]] == number[rows[b][c]] for a, b, c in product(colours, repeat=3)
               if number[a] == number[b])


def has_second_property(rows, division):
    """Whether the two beans of each three colours are in one part."""
    number = numbers_of(division, len(rows))
    return all(number[rows[rows[a][b]][c]] == number[rows[a][rows[b][c]]]
               for a, b, c in product(range(len(rows)), repeat=3))


def is_finer(one, other):
    """Whether each part of a division lies within a part of another one."""
    return all(any(set(part) <= set(whole) for whole in other) for part in one)


class GroupsTest(unittest.TestCase):
    def test_against_joining_until_nothing_changes(self):
        for rows in some_rows():
            table = Table(rows)
            self.assertEqual(groups(table), joined_groups(rows), rows)
            self.assertEqual(table.rows(), rows)

    def test_known_groups(self):
        self.assertEqual(groups(Table([[0]])), [[0]])
        self.assertEqual(groups(Table([[1, 0], [0, 0]])), [[0, 1]])
        self.assertEqual(groups(Table([[0, 1], [1, 0]])), [[0], [1]])
        self.assertEqual(groups(Table([[1, 0, 0], [0, 0, 0], [0, 0, 2]])), [[0, 1], [2]])
        self.assertEqual(groups(Table(rows_of(8, max))), [[colour] for colour in range(8)])
        doubled = rows_of(8, lambda a, b: (2 * a + 2 * b) % 8)
        self.assertEqual(groups(Table(doubled)), [[0, 2, 4, 6], [1], [3], [5], [7]])
        self.assertEqual(groups(Table(DEEP)), [[0, 1, 2, 3, 4, 5, 6, 7]])

    def test_groups_that_three_colours_alone_do_not_show(self):
        for rows in LINKED:
            for names in list(permutations(range(len(rows))))[::97]:
                renamed = Table(rows).renamed(names)
                self.assertEqual(groups(renamed), joined_groups(renamed.rows()))

    def test_sorted_lists(self):
        for rows in some_rows():
            parts = groups(Table(rows))
            self.assertIsInstance(parts, list)
            self.assertEqual(sorted(parts), parts)
            self.assertEqual(sorted(sum(parts, [])), list(range(len(rows))))
            for part in parts:
                self.assertIsInstance(part, list)
                self.assertEqual(sorted(part), part)

    def test_single_colours_exactly_if_the_table_passes(self):
        for rows in some_rows():
            self.assertIs(len(groups(Table(rows))) == len(rows), passes(Table(rows)))

    def test_returned_lists_can_be_changed(self):
        table = Table([[1, 0, 0], [0, 0, 0], [0, 0, 2]])
        returned = groups(table)
        returned[0].append(7)
        returned.pop()
        self.assertEqual(groups(table), [[0, 1], [2]])
        self.assertEqual(quotient(table).rows(), [[0, 0], [0, 1]])

    def test_by_name(self):
        table = Table([[1, 0, 0], [0, 0, 0], [0, 0, 2]])
        self.assertEqual(groups(table=table), [[0, 1], [2]])
        self.assertEqual(quotient(table=table), Table([[0, 0], [0, 1]]))


class FinestTest(unittest.TestCase):
    def check(self, rows):
        parts = groups(Table(rows))
        for division in all_divisions(len(rows)):
            both = has_first_property(rows, division) and has_second_property(rows, division)
            self.assertIs(both, is_finer(parts, division) and has_first_property(rows, division), (rows, division))
            if both:
                self.assertTrue(is_finer(parts, division))
        self.assertTrue(has_first_property(rows, parts) and has_second_property(rows, parts))

    def test_all_tables_of_three_colours(self):
        for rows in list(all_rows(1)) + list(all_rows(2)) + list(all_rows(3)):
            self.check(rows)

    def test_tables_of_more_colours(self):
        for rows in some_rows():
            if len(rows) in (4, 5, 6):
                self.check(rows)


class GuaranteeTest(unittest.TestCase):
    def check(self, rows, most):
        known = {}
        ends = [searched_last_beans(rows, counts, known) for counts in all_counts(len(rows), most)]
        parts = groups(Table(rows))
        for division in all_divisions(len(rows)):
            number = numbers_of(division, len(rows))
            fixed = all(len({number[colour] for colour in found}) == 1 for found in ends)
            if division == parts:
                self.assertTrue(fixed, rows)
            if fixed:
                self.assertTrue(is_finer(parts, division), (rows, division))

    def test_the_group_of_the_last_bean_is_the_same_for_all_ways(self):
        for rows in list(all_rows(1)) + list(all_rows(2)):
            self.check(rows, 7)
        for rows in all_rows(3):
            self.check(rows, 5)

    def test_more_colours(self):
        for seed in range(12):
            self.check(mixed_rows(4, seed), 5)
        for rows in some_rows():
            if len(rows) == 5:
                self.check(rows, 4)


class QuotientTest(unittest.TestCase):
    def test_the_table_of_the_groups(self):
        for rows in some_rows():
            parts, new = groups(Table(rows)), quotient(Table(rows))
            self.assertIsInstance(new, Table)
            self.assertEqual(new.size, len(parts))
            number = numbers_of(parts, len(rows))
            for a, b in product(range(len(rows)), repeat=2):
                self.assertEqual(new[number[a], number[b]], number[rows[a][b]])

    def test_it_passes_the_check(self):
        for rows in some_rows():
            self.assertIs(passes(quotient(Table(rows))), True)

    def test_a_table_that_passes_is_its_own(self):
        for rows in some_rows():
            if passes(Table(rows)):
                self.assertEqual(quotient(Table(rows)), Table(rows))


if __name__ == "__main__":
    unittest.main()
