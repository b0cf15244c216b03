import unittest
from itertools import product
from math import comb

from beanjars.checks import first_dispute, passes
from beanjars.errors import Disputed, EmptyJar, InvalidColour, InvalidNumber, WrongSize
from beanjars.groups import groups
from beanjars.jars import Jar
from beanjars.products import count_jars, last_bean, last_group, powers
from beanjars.tables import Table
from samples import all_counts, all_rows, joined_groups, mixed_rows, no_colours, no_integers, passing_rows, rows_of, \
    searched_last_beans, some_rows

NOR = Table([[1, 0], [0, 0]])
XOR = Table([[0, 1], [1, 0]])
TREE = Table([[0, 1, 2], [1, 1, 2], [2, 2, 2]])
HUGE = [10 ** 59 + 7, 3 * 10 ** 58 + 1, 0, 1, 10 ** 60 - 1, 6 * 10 ** 59, 2, 10 ** 59]


def squared_power(rows, colour, count):
    """The bean of so many beans of a colour, at least one, by halving the count."""
    if count == 1:
        return colour
    half = squared_power(rows, colour, count // 2)
    whole = rows[half][half]
    return rows[whole][colour] if count % 2 else whole


def squared_bean(rows, counts):
    """The bean of a jar by the table, the powers of the colours taken together from the left."""
    beans = [squared_power(rows, colour, count) for colour, count in enumerate(counts) if count > 0]
    bean = beans[0]
    for other in beans[1:]:
        bean = rows[bean][other]
    return bean


def sizes_that_differ(size):
    return [count for count in range(1, 9) if count != size]


class LastBeanTest(unittest.TestCase):
    def test_against_all_ways(self):
        for rows in passing_rows():
            known = {}
            most = 7 if len(rows) < 3 else 5 if len(rows) == 3 else 3
            for counts in all_counts(len(rows), most):
                found = searched_last_beans(rows, counts, known)
                self.assertEqual([last_bean(Table(rows), Jar(counts))], sorted(found))

    def test_one_bean(self):
        for rows in passing_rows():
            for colour in range(len(rows)):
                self.assertEqual(last_bean(Table(rows), Jar.of_beans(len(rows), [colour])), colour)

    def test_great_counts_by_squaring(self):
        for rows in passing_rows():
            size = len(rows)
            for shift in range(8):
                counts = (HUGE[shift:] + HUGE[:shift])[:size]
                if sum(counts) > 0:
                    self.assertEqual(last_bean(Table(rows), Jar(counts)), squared_bean(rows, counts))

    def test_great_counts_by_arithmetic(self):
        for size in range(1, 9):
            for shift in range(8):
                counts = (HUGE[shift:] + HUGE[:shift])[:size]
                if sum(counts) == 0:
                    continue
                jar = Jar(counts)
                sums = sum(colour * count for colour, count in enumerate(counts)) % size
                self.assertEqual(last_bean(Table(rows_of(size, lambda a, b: (a + b) % size)), jar), sums)
                factors = 1
                for colour, count in enumerate(counts):
                    factors = factors * pow(colour, count, size) % size
                products = rows_of(size, lambda a, b: a * b % size)
                self.assertEqual(last_bean(Table(products), jar), factors)
                self.assertEqual(last_bean(Table(rows_of(size, max)), jar), jar.colours()[-1])
                self.assertEqual(last_bean(Table(rows_of(size, min)), jar), jar.colours()[0])

    def test_jars_that_are_added_and_multiplied(self):
        for rows in passing_rows():
            table, size = Table(rows), len(rows)
            one, other = Jar((HUGE + HUGE)[3:3 + size]), Jar([1] + [0] * (size - 1))
            self.assertEqual(last_bean(table, one + other), table[last_bean(table, one), last_bean(table, other)])
            for number in (1, 2, 7, 10 ** 20 + 3):
                bean = squared_power(rows, last_bean(table, one), number)
                self.assertEqual(last_bean(table, one * number), bean)

    def test_disputed_tables_come_first(self):
        for rows in some_rows():
            table = Table(rows)
            if passes(table):
                continue
            for jar in (Jar([1] * len(rows)), Jar([0] * len(rows)), Jar([1] * sizes_that_differ(len(rows))[0])):
                with self.assertRaises(Disputed) as caught:
                    last_bean(table, jar)
                self.assertEqual(caught.exception.triple, first_dispute(table))
                self.assertIsInstance(caught.exception.triple, tuple)

    def test_wrong_size_then_empty(self):
        for rows in passing_rows():
            for size in sizes_that_differ(len(rows)):
                for count in (0, 1):
                    with self.assertRaises(WrongSize):
                        last_bean(Table(rows), Jar([count] * size))
            with self.assertRaises(EmptyJar):
                last_bean(Table(rows), Jar([0] * len(rows)))

    def test_by_name(self):
        self.assertEqual(last_bean(table=XOR, jar=Jar([1, 3])), 1)
        self.assertEqual(last_group(table=NOR, jar=Jar([1, 3])), [0, 1])
        self.assertEqual(powers(table=XOR, colour=1), ([1, 0], 1))
        self.assertEqual(count_jars(table=XOR, total=2), [2, 1])

    def test_arguments_do_not_change(self):
        table, jar = Table([[0, 1], [1, 0]]), Jar([5, 6])
        last_bean(table, jar)
        last_group(table, jar)
        self.assertEqual((table.rows(), jar.counts()), ([[0, 1], [1, 0]], [5, 6]))


class LastGroupTest(unittest.TestCase):
    def test_against_all_ways(self):
        for rows in some_rows():
            known = {}
            parts = joined_groups(rows)
            for counts in all_counts(len(rows), 5 if len(rows) < 4 else 3):
                found = searched_last_beans(rows, counts, known)
                group = last_group(Table(rows), Jar(counts))
                self.assertIn(group, parts)
                self.assertLessEqual(found, set(group))

    def test_great_counts(self):
        for rows in some_rows():
            parts, table = groups(Table(rows)), Table(rows)
            for shift in range(8):
                counts = (HUGE[shift:] + HUGE[:shift])[:len(rows)]
                if sum(counts) > 0:
                    bean = squared_bean(rows, counts)
                    self.assertEqual(last_group(table, Jar(counts)), next(part for part in parts if bean in part))

    def test_groups_of_one_colour_if_the_table_passes(self):
        for rows in passing_rows():
            jar = Jar((HUGE + HUGE)[4:4 + len(rows)])
            self.assertEqual(last_group(Table(rows), jar), [last_bean(Table(rows), jar)])

    def test_returned_lists_can_be_changed(self):
        last_group(NOR, Jar([1, 1])).clear()
        self.assertEqual(last_group(NOR, Jar([1, 1])), [0, 1])
        self.assertEqual(groups(NOR), [[0, 1]])

    def test_wrong_size_then_empty(self):
        for table in (NOR, XOR):
            for size in sizes_that_differ(2):
                for count in (0, 1):
                    with self.assertRaises(WrongSize):
                        last_group(table, Jar([count] * size))
            with self.assertRaises(EmptyJar):
                last_group(table, Jar([0, 0]))


class PowersTest(unittest.TestCase):
    def test_against_the_last_beans(self):
        for rows in passing_rows():
            table, size = Table(rows), len(rows)
            for colour in range(size):
                found, number = powers(table, colour)
                beans = [last_bean(table, Jar.of_beans(size, [colour] * many)) for many in range(1, 40)]
                self.assertIsInstance(found, list)
                self.assertEqual(found, beans[:len(found)])
                self.assertEqual(len(set(found)), len(found))
                self.assertEqual(set(beans), set(found))
                again = [at for at, bean in enumerate(beans) if bean in beans[at + 1:]][0]
                self.assertEqual(number, again + 1)
                self.assertEqual(beans[len(found)], found[number - 1])

    def test_they_repeat_from_there_on(self):
        for rows in passing_rows():
            for colour in range(len(rows)):
                found, number = powers(Table(rows), colour)
                for many in (10 ** 50, 10 ** 50 + 1, 10 ** 59 + 5):
                    at = number - 1 + (many - number) % (len(found) - number + 1)
                    counts = [many if other == colour else 0 for other in range(len(rows))]
                    self.assertEqual(last_bean(Table(rows), Jar(counts)), found[at])

    def test_where_the_first_powers_do_not_repeat(self):
        table = Table(rows_of(8, lambda a, b: a * b % 8))
        self.assertEqual(powers(table, 2), ([2, 4, 0], 3))
        self.assertEqual(powers(table, 6), ([6, 4, 0], 3))
        self.assertEqual(powers(table, 3), ([3, 1], 1))
        self.assertEqual(powers(table, 1), ([1], 1))
        self.assertEqual(powers(Table(rows_of(7, lambda a, b: (a + b) % 7)), 3), ([3, 6, 2, 5, 1, 4, 0], 1))
        six = Table(rows_of(6, lambda a, b: min(a + b + 1, 3 + (a + b + 1 - 3) % 2)))
        self.assertEqual(powers(six, 0), ([0, 1, 2, 3, 4], 4))

    def test_result_is_a_tuple_with_a_new_list(self):
        result = powers(XOR, 1)
        self.assertIsInstance(result, tuple)
        result[0].clear()
        self.assertEqual(powers(XOR, 1), ([1, 0], 1))

    def test_disputed_then_the_colour(self):
        for value in no_colours(2) + [0]:
            with self.assertRaises(Disputed) as caught:
                powers(NOR, value)
            self.assertEqual(caught.exception.triple, (0, 0, 1))
        for rows in passing_rows():
            for value in no_colours(len(rows)):
                with self.assertRaises(InvalidColour) as caught:
                    powers(Table(rows), value)
                self.assertIs(caught.exception.value, value)


class CountJarsTest(unittest.TestCase):
    def test_by_trying_all(self):
        for rows in passing_rows():
            table, size = Table(rows), len(rows)
            for total in range(1, 6 if size < 4 else 4):
                numbers = [0] * size
                for counts in all_counts(size, total):
                    if sum(counts) == total:
                        numbers[squared_bean(rows, counts)] += 1
                self.assertEqual(count_jars(table, total), numbers)

    def test_greater_totals(self):
        for total in (9, 17, 40):
            numbers = [0, 0, 0]
            for a, b in product(range(total + 1), repeat=2):
                if a + b <= total:
                    numbers[2 if a + b < total else 1 if b else 0] += 1
            self.assertEqual(count_jars(TREE, total), numbers)

    def test_each_jar_is_counted_once(self):
        for rows in passing_rows():
            for total in (1, 2, 13, 40):
                numbers = count_jars(Table(rows), total)
                self.assertIsInstance(numbers, list)
                self.assertEqual(len(numbers), len(rows))
                self.assertEqual(sum(numbers), comb(total + len(rows) - 1, total))

    def test_one_bean(self):
        for rows in passing_rows():
            self.assertEqual(count_jars(Table(rows), 1), [1] * len(rows))

    def test_disputed_then_the_total(self):
        wrong = no_integers() + [0, -1, 41, 10 ** 30]
        for total in wrong + [1]:
            with self.assertRaises(Disputed) as caught:
                count_jars(NOR, total)
            self.assertEqual(caught.exception.triple, (0, 0, 1))
        for total in wrong:
            with self.assertRaises(InvalidNumber) as caught:
                count_jars(XOR, total)
            self.assertIs(caught.exception.value, total)


class AllTablesTest(unittest.TestCase):
    def test_every_table_passes_or_is_disputed(self):
        for rows in list(all_rows(2)) + list(all_rows(3)) + [mixed_rows(8, seed) for seed in range(5)]:
            table = Table(rows)
            for call in (lambda: last_bean(table, Jar([1] * len(rows))), lambda: powers(table, 0),
                         lambda: count_jars(table, 3)):
                if passes(table):
                    call()
                else:
                    with self.assertRaises(Disputed) as caught:
                        call()
                    self.assertEqual(caught.exception.triple, first_dispute(table))


if __name__ == "__main__":
    unittest.main()
