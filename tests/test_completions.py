import unittest
from itertools import combinations, permutations, product
from math import comb

from beanjars.checks import passes
from beanjars.completions import completions, least_renaming, open_choices, renaming_between, repairs, symmetries, \
    tables_up_to_renaming
from beanjars.errors import InvalidNumber, InvalidTable, LimitExceeded, WrongSize
from beanjars.tables import Table
from samples import Agreeable, Touchy, all_rows, is_passing, large_rows, mixed_rows, no_colours, no_numbers, \
    no_sequences, passing_rows, rows_of, some_rows

# For each number of colours the most open entries of tables with at most 1024 completions.
MOST_OPEN = {1: 1, 2: 3, 3: 6, 4: 5, 5: 4, 6: 3, 7: 3, 8: 3}
# The same for the most changes of tables, if there are at most 1500 tables to look at.
MOST_CHANGED = {1: 36, 2: 36, 3: 36, 4: 2, 5: 1, 6: 1, 7: 1, 8: 1}


def pairs(size):
    """The pairs of colours with a <= b."""
    return [(a, b) for a in range(size) for b in range(a, size)]


def opened(rows, places):
    """Rows in which the entries of some pairs are None."""
    size = len(rows)
    return rows_of(size, lambda a, b: None if (a, b) in places or (b, a) in places else rows[a][b])


def filled(rows):
    """All completions of a partly known table, ascending, by trying all entries."""
    size = len(rows)
    places = [(a, b) for a, b in pairs(size) if rows[a][b] is None]
    found = []
    for entries in product(range(size), repeat=len(places)):
        at = dict(zip(places, entries))
        found.append(rows_of(size, lambda a, b: at.get((min(a, b), max(a, b)), rows[a][b])))
    return sorted(found)


def some_places(size, many, seed):
    """Some pairs of colours, always the same ones for a seed."""
    places = pairs(size)
    return [places[(seed * 7 + 5 * at * (seed + 1)) % len(places)] for at in range(many)]


def some_partly_known():
    """Rows of partly known tables with few enough completions."""
    found = [[[None]], [[0]]]
    for rows in list(all_rows(2)):
        found += [opened(rows, chosen) for many in range(4) for chosen in combinations(pairs(2), many)]
    for rows in passing_rows()[::3] + large_rows():
        size = len(rows)
        for seed in range(3):
            found.append(opened(rows, some_places(size, min(MOST_OPEN[size], 1 + seed), seed)))
    return found + [opened(mixed_rows(size, seed), pairs(size)[seed:seed + MOST_OPEN[size]])
                    for size in range(3, 9) for seed in range(2)]


def at_the_limit():
    """Rows of partly known tables with as many open entries as allowed, and which other pairs could be opened."""
    found = []
    for size, many in MOST_OPEN.items():
        for rows in (rows_of(size, max), rows_of(size, lambda a, b: (a + b) % size), mixed_rows(size, 1)):
            for places in (pairs(size)[:many], pairs(size)[::-1][:many]):
                found.append((opened(rows, places), [place for place in pairs(size) if place not in places]))
    return found


def wrong_partly_known():
    """Values that are no rows of partly known tables, each with the first wrong place."""
    found = [(value, None) for value in no_sequences()]
    found += [(value, None) for value in ([], (), [[]], [0], [None], [[0, 0]], [[0], [0]], [[0, 0], [0]], [[0, 0], 0],
                                          [[0, 0], None], [[None, None], "00"], [[0] * 9] * 9, ([0, 1], {0: 0, 1: 0}))]
    for value in no_colours(2):
        if value is not None:
            found += [([[value, 0], [0, 0]], (0, 0)), ([[0, value], [0, 0]], (0, 1)), ([[0, None], [value, 0]], (1, 0)),
                      ([[None, 0], (0, value)], (1, 1)), ([[0, value], [value, value]], (0, 1))]
    found += [([[0, 1], [0, 0]], (1, 0)), ([[0, None], [0, 0]], (1, 0)), ([[0, 0], [None, 0]], (1, 0)),
              ([[0, 1], [0, 2]], (1, 0)), ([[None, 1], [None, 9]], (1, 0))]
    three = [[0, None, 2], [None, 1, None], [2, None, 0]]
    for a, b in product(range(3), repeat=2):
        for entry in (0, 1, 2, None, 3, -1, "x", Touchy(), Agreeable()):
            rows = [list(row) for row in three]
            rows[a][b] = entry
            if isinstance(entry, int) and 0 <= entry < 3 or entry is None:
                if a != b and entry != three[a][b]:
                    found.append((rows, (max(a, b), min(a, b))))
            else:
                found.append((rows, (a, b)))
    return found


class CasesTest:
    """Checks a function with partly known tables of many kinds."""

    def test_against_trying_all_entries(self):
        for rows in some_partly_known():
            self.check(rows)

    def test_at_the_limit(self):
        for rows, others in at_the_limit():
            self.check(rows)


class CompletionsTest(CasesTest, unittest.TestCase):
    def check(self, rows):
        expected = [full for full in filled(rows) if is_passing(full)]
        for given in (rows, tuple(tuple(row) for row in rows), [tuple(row) for row in rows]):
            found = completions(given)
            self.assertIsInstance(found, list)
            self.assertEqual([table.rows() for table in found], expected)
            for table in found:
                self.assertIsInstance(table, Table)

    def test_full_rows_are_returned_exactly_if_they_pass(self):
        for rows in some_rows()[::3]:
            found = [table.rows() for table in completions(rows)]
            self.assertEqual(found, [rows] if is_passing(rows) else [])
            self.assertIs(found == [rows], passes(Table(rows)))

    def test_rows_are_not_modified_nor_kept(self):
        rows = [[0, None], [None, 1]]
        found = completions(rows)
        open_choices(rows)
        self.assertEqual(rows, [[0, None], [None, 1]])
        rows[0][0] = 1
        found.pop()
        self.assertEqual([table.rows() for table in found], [[[0, 0], [0, 1]]])
        self.assertEqual(len(completions([[0, None], [None, 1]])), 2)


class OpenChoicesTest(CasesTest, unittest.TestCase):
    def check(self, rows):
        size = len(rows)
        full = [one for one in filled(rows) if is_passing(one)]
        expected = {(a, b): sorted({one[a][b] for one in full}) for a, b in pairs(size) if rows[a][b] is None}
        for given in (rows, tuple(tuple(row) for row in rows)):
            found = open_choices(given)
            self.assertIsInstance(found, dict)
            self.assertEqual(found, expected)
            self.assertEqual(list(found), sorted(expected))
            for colours in found.values():
                self.assertIsInstance(colours, list)

    def test_nothing_open_and_no_completion(self):
        self.assertEqual(open_choices([[1, 0], [0, 0]]), {})
        self.assertEqual(open_choices([[1, 0, 0], [0, 0, 0], [0, 0, None]]), {(2, 2): []})
        self.assertEqual(completions([[1, 0, 0], [0, 0, 0], [0, 0, None]]), [])

    def test_returned_lists_can_be_changed(self):
        rows = [[None, None], [None, None]]
        found = open_choices(rows)
        found[0, 0].clear()
        self.assertEqual(found[1, 1], [0, 1])
        found.clear()
        self.assertEqual(open_choices(rows), {(0, 0): [0, 1], (0, 1): [0, 1], (1, 1): [0, 1]})


class WrongRowsTest(unittest.TestCase):
    def test_the_first_wrong_place(self):
        for rows, place in wrong_partly_known():
            for call in (completions, open_choices):
                with self.assertRaises(InvalidTable) as caught:
                    call(rows)
                self.assertEqual(caught.exception.place, place)

    def test_then_the_limit(self):
        for rows, others in at_the_limit():
            for place in others[:2] + others[-2:]:
                for call in (completions, open_choices):
                    with self.assertRaises(LimitExceeded) as caught:
                        call(opened(rows, [place]))
                    self.assertEqual(caught.exception.limit, 1024)

    def test_all_open(self):
        for size in range(4, 9):
            for call in (completions, open_choices):
                with self.assertRaises(LimitExceeded) as caught:
                    call([[None] * size] * size)
                self.assertEqual(caught.exception.limit, 1024)

    def test_wrong_places_before_the_limit(self):
        rows = [[None] * 8 for _ in range(8)]
        rows[7][6] = 0
        with self.assertRaises(InvalidTable) as caught:
            completions(rows)
        self.assertEqual(caught.exception.place, (7, 6))


def changed(rows, number):
    """All tables that differ from a table in just so many entries, ascending."""
    size, found = len(rows), []
    for places in combinations(pairs(size), number):
        for entries in product(range(size), repeat=number):
            at = dict(zip(places, entries))
            if all(rows[a][b] != at[a, b] for a, b in places):
                found.append(rows_of(size, lambda a, b: at.get((min(a, b), max(a, b)), rows[a][b])))
    return sorted(found)


def plain_repairs(rows, most):
    """The least number of changes, and all tables that pass after so many, by trying all of them."""
    for number in range(min(most, len(pairs(len(rows)))) + 1):
        found = [one for one in changed(rows, number) if is_passing(one)]
        if found:
            return (number, found)
    return None


class RepairsTest(unittest.TestCase):
    def check(self, rows, most):
        expected = plain_repairs(rows, most)
        found = repairs(Table(rows), most)
        if expected is None:
            self.assertIsNone(found)
        else:
            self.assertIsInstance(found, tuple)
            self.assertIsInstance(found[1], list)
            self.assertEqual((found[0], [table.rows() for table in found[1]]), expected)

    def test_against_all_tables_with_so_many_changes(self):
        for rows in list(all_rows(1)) + list(all_rows(2)):
            for most in (0, 1, 2, 3, 36):
                self.check(rows, most)
        for rows in list(all_rows(3))[::5]:
            for most in (0, 1, 2, 6, 36):
                self.check(rows, most)

    def test_more_colours(self):
        for size in range(4, 9):
            for rows in [rows_of(size, max), mixed_rows(size, 1)] + [self.spoilt(size, seed) for seed in range(6)]:
                for most in range(MOST_CHANGED[size] + 1):
                    self.check(rows, most)

    def spoilt(self, size, seed):
        """Rows of a table that passes, but for one or two entries."""
        rows = [list(row) for row in large_rows()[9 * (size - 1):][seed % 4]]
        for a, b in some_places(size, 1 + seed // 2, seed):
            rows[a][b] = rows[b][a] = (rows[a][b] + 1) % size
        return rows

    def test_no_change_exactly_if_the_table_passes(self):
        for rows in some_rows()[::2]:
            expected = (0, [rows]) if is_passing(rows) else None
            found = repairs(Table(rows), 0)
            self.assertEqual(found and (found[0], [table.rows() for table in found[1]]), expected)

    def test_wrong_most(self):
        for table in (Table([[1, 0], [0, 0]]), Table([[0]]), Table(mixed_rows(8, 1))):
            for most in no_numbers(0, 36):
                with self.assertRaises(InvalidNumber) as caught:
                    repairs(table, most)
                self.assertIs(caught.exception.value, most)

    def test_limit(self):
        for size, most in MOST_CHANGED.items():
            places = len(pairs(size))
            tables = sum(comb(places, number) * (size - 1) ** number for number in range(most + 1))
            self.assertLessEqual(tables, 1500)
            for rows in (rows_of(size, max), mixed_rows(size, 2)):
                repairs(Table(rows), most)
                for more in {most + 1, most + 2, 36} if most < 36 else ():
                    with self.assertRaises(LimitExceeded) as caught:
                        repairs(Table(rows), more)
                    self.assertEqual(caught.exception.limit, 1500)

    def test_returned_lists_can_be_changed(self):
        table = Table([[1, 0], [0, 0]])
        repairs(table, 3)[1].clear()
        self.assertEqual([one.rows() for one in repairs(table, 3)[1]], [[[0, 0], [0, 0]], [[1, 0], [0, 1]]])
        self.assertEqual(table.rows(), [[1, 0], [0, 0]])


def renamed(rows, names):
    """Renamed rows, by the words of the document."""
    at = {(names[a], names[b]): names[rows[a][b]] for a in range(len(rows)) for b in range(len(rows))}
    return rows_of(len(rows), lambda a, b: at[a, b])


def some_tables():
    """Rows of tables with up to five colours."""
    rows = list(all_rows(1)) + list(all_rows(2)) + list(all_rows(3))[::4]
    return rows + [rows for rows in large_rows() + [mixed_rows(size, seed) for size in (4, 5) for seed in range(4)]
                   if 3 < len(rows) < 6]


class RenamingsTest(unittest.TestCase):
    def test_least_renaming(self):
        for rows in some_tables():
            all_names = [list(names) for names in permutations(range(len(rows)))]
            least = min(renamed(rows, names) for names in all_names)
            names = min(names for names in all_names if renamed(rows, names) == least)
            found = least_renaming(Table(rows))
            self.assertIsInstance(found, tuple)
            self.assertIsInstance(found[1], list)
            self.assertEqual((found[0], found[1]), (Table(least), names))
            self.assertEqual(Table(rows).renamed(found[1]), found[0])

    def test_symmetries(self):
        for rows in some_tables():
            expected = [list(names) for names in permutations(range(len(rows))) if renamed(rows, names) == rows]
            self.assertEqual(symmetries(Table(rows)), expected)
        self.assertEqual(len(symmetries(Table(rows_of(5, lambda a, b: a if a == b else 0)))), 24)
        self.assertEqual(symmetries(Table(rows_of(5, max))), [[0, 1, 2, 3, 4]])

    def test_renaming_between(self):
        for rows in some_tables()[::3]:
            for names in list(permutations(range(len(rows))))[::7]:
                other = renamed(rows, names)
                expected = next(list(one) for one in permutations(range(len(rows))) if renamed(rows, one) == other)
                self.assertEqual(renaming_between(Table(rows), Table(other)), expected)
        for first, second in product(list(all_rows(2)), repeat=2):
            fitting = [list(names) for names in permutations(range(2)) if renamed(first, names) == second]
            found = renaming_between(Table(first), Table(second))
            self.assertEqual(found, fitting[0] if fitting else None)
        self.assertIsNone(renaming_between(Table(rows_of(5, max)), Table(rows_of(5, lambda a, b: 0))))

    def test_more_than_five_colours(self):
        for size in (6, 7, 8):
            table = Table(rows_of(size, max))
            for call in (lambda: least_renaming(table), lambda: symmetries(table),
                         lambda: renaming_between(table, table)):
                with self.assertRaises(LimitExceeded) as caught:
                    call()
                self.assertEqual(caught.exception.limit, 5)

    def test_wrong_size_before_the_limit(self):
        for first, second in product(range(1, 9), repeat=2):
            if first != second:
                with self.assertRaises(WrongSize):
                    renaming_between(Table(rows_of(first, max)), Table(rows_of(second, max)))

    def test_returned_lists_can_be_changed(self):
        table = Table([[0, 0], [0, 0]])
        symmetries(table)[0].clear()
        symmetries(table).clear()
        least_renaming(table)[1].clear()
        renaming_between(table, table).clear()
        self.assertEqual(symmetries(table), [[0, 1]])
        self.assertEqual(least_renaming(table)[1], [0, 1])
        self.assertEqual(renaming_between(table, table), [0, 1])


class TablesUpToRenamingTest(unittest.TestCase):
    def test_against_all_tables(self):
        for size, many in ((1, 1), (2, 3), (3, 12)):
            expected = [rows for rows in sorted(all_rows(size)) if is_passing(rows)
                        and rows == min(renamed(rows, names) for names in permutations(range(size)))]
            found = tables_up_to_renaming(size)
            self.assertIsInstance(found, list)
            self.assertEqual([table.rows() for table in found], expected)
            self.assertEqual(len(found), many)
            found.clear()
            self.assertEqual(len(tables_up_to_renaming(size)), many)

    def test_each_table_that_passes_is_a_renamed_one_of_them(self):
        for size in (1, 2, 3):
            tables = tables_up_to_renaming(size)
            for rows in all_rows(size):
                if is_passing(rows):
                    self.assertIn(least_renaming(Table(rows))[0], tables)

    def test_wrong_sizes(self):
        for size in no_numbers(1, 3):
            with self.assertRaises(InvalidNumber) as caught:
                tables_up_to_renaming(size)
            self.assertIs(caught.exception.value, size)

    def test_by_name(self):
        table, other = Table([[0, 1], [1, 1]]), Table([[0, 0], [0, 1]])
        self.assertEqual(len(completions(rows=[[0, None], [None, 1]])), 2)
        self.assertEqual(open_choices(rows=[[0, None], [None, 1]]), {(0, 1): [0, 1]})
        self.assertEqual(repairs(most=0, table=table), (0, [table]))
        self.assertEqual(least_renaming(table=table), (other, [1, 0]))
        self.assertEqual(symmetries(table=table), [[0, 1]])
        self.assertEqual(renaming_between(second=other, first=table), [1, 0])
        self.assertEqual(len(tables_up_to_renaming(size=2)), 3)


if __name__ == "__main__":
    unittest.main()
