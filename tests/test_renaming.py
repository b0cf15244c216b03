"""Renaming the colours renames the results; the tests of jars, open rules and exclusions have further cases."""

import unittest
from itertools import permutations

from beanjars.groups import groups, is_reason, quotient, reason
from beanjars.jars import Jar, last_of
from beanjars.possible import last_beans, way_to
from beanjars.products import count_jars, last_bean, last_group, powers
from beanjars.tables import Table
from samples import all_rows, mixed_rows, passing_rows, some_rows
from test_reasons import renamed_steps

BIG = 10 ** 59 + 11


def some_names(size):
    """Some renamings of so many colours, all of them for few."""
    if size < 4:
        return list(permutations(range(size)))
    turned = list(range(1, size)) + [0]
    return [turned, list(range(size))[::-1], [1, 0] + list(range(2, size))]


class RenamingTest(unittest.TestCase):
    def test_groups(self):
        for rows in some_rows():
            table = Table(rows)
            for names in some_names(len(rows)):
                new = table.renamed(names)
                moved = sorted(sorted(names[colour] for colour in part) for part in groups(table))
                self.assertEqual(groups(new), moved)
                self.check_quotient(table, new, names)

    def check_quotient(self, table, new, names):
        numbers = [next(at for at, part in enumerate(groups(new)) if names[first[0]] in part)
                   for first in groups(table)]
        self.assertEqual(quotient(new), quotient(table).renamed(numbers))

    def test_reasons(self):
        for rows in list(all_rows(3))[::7] + [mixed_rows(size, 2) for size in range(4, 9)]:
            table, size = Table(rows), len(rows)
            for names in some_names(size):
                new = table.renamed(names)
                for start in range(size):
                    for end in range(size):
                        steps = reason(table, start, end)
                        self.assertIs(steps is None, reason(new, names[start], names[end]) is None)
                        if steps is not None:
                            moved = renamed_steps(steps, names)
                            self.assertIs(is_reason(new, names[start], names[end], moved), True)

    def test_last_beans_of_tables_that_pass(self):
        for rows in passing_rows():
            table, size = Table(rows), len(rows)
            for names in some_names(size):
                new = table.renamed(names)
                for counts in ([BIG, 1, 0, BIG + 1, 7, BIG * 3, 0, 2][:size], [1] * size, [BIG + 4] * size):
                    jar = Jar(counts)
                    self.assertEqual(last_bean(new, jar.renamed(names)), names[last_bean(table, jar)])
                for colour in range(size):
                    found, number = powers(table, colour)
                    self.assertEqual(powers(new, names[colour]), ([names[bean] for bean in found], number))
                for total in (1, 5, 40):
                    numbers = count_jars(table, total)
                    moved = count_jars(new, total)
                    self.assertEqual([moved[names[colour]] for colour in range(size)], numbers)

    def test_groups_of_last_beans(self):
        for rows in some_rows():
            table, size = Table(rows), len(rows)
            for names in some_names(size):
                for counts in ([BIG, 1, 0, BIG + 1, 7, BIG * 3, 0, 2][:size], [0] * (size - 1) + [3]):
                    jar = Jar(counts)
                    moved = sorted(names[colour] for colour in last_group(table, jar))
                    self.assertEqual(last_group(table.renamed(names), jar.renamed(names)), moved)

    def test_possible_last_beans(self):
        for rows in list(all_rows(2)) + [mixed_rows(size, seed) for size in range(3, 9) for seed in range(3)]:
            table, size = Table(rows), len(rows)
            jar = Jar([2, 1, 1, 0, 1, 0, 1, 0][:size])
            found = last_beans(table, jar)
            for names in some_names(size):
                new, moved = table.renamed(names), jar.renamed(names)
                self.assertEqual(last_beans(new, moved), sorted(names[colour] for colour in found))
                for colour in found:
                    self.assertEqual(last_of(new, moved, way_to(new, moved, names[colour])), names[colour])


if __name__ == "__main__":
    unittest.main()
