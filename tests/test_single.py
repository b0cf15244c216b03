import unittest
from itertools import product

from beanjars.errors import InvalidColour, InvalidNumber, LimitExceeded, WrongSize
from beanjars.single import beans_of_many, count_leading, first_difference, is_power_table, nth_leading, period, \
    power_sets, power_table
from beanjars.tables import Table
from samples import Agreeable, Touchy, all_rows, mixed_rows, no_colours, no_numbers, no_sequences, rows_of, \
    searched_last_beans, some_rows

NOR = Table([[1, 0], [0, 0]])
XOR = Table([[0, 1], [1, 0]])
BIG = 10 ** 30


def cycle_rows(size):
    """Two beans of a colour give the next one, the last but one leads back to the first; all others give the last."""
    return rows_of(size, lambda a, b: (a + 1) % (size - 1) if a == b < size - 1 else size - 1)


def doubling_rows(size):
    """Two beans of a colour give the next one, and all other pairs give the last colour."""
    return rows_of(size, lambda a, b: a + 1 if a == b < size - 1 else size - 1)


CYCLE_7 = Table(cycle_rows(7))
CYCLE_8 = Table(cycle_rows(8))
STEPS = Table(doubling_rows(8))
KNOWN = {}


def plain_sets(rows, colour, many):
    """The sets of the possible last beans of 1 to many beans of a colour, by combining each part with the rest."""
    key = (str(rows), colour)
    found = KNOWN.setdefault(key, [None, {colour}])
    products = {}
    while len(found) <= many:
        count = len(found)
        new = set()
        for part in range(1, count):
            pair = (frozenset(found[part]), frozenset(found[count - part]))
            if pair not in products:
                products[pair] = {rows[x][y] for x in pair[0] for y in pair[1]}
            new |= products[pair]
        found.append(new)
    return [sorted(one) for one in found[1:many + 1]]


def plain_period(rows, colour, most):
    """The least start and period with start + period <= most, by the words of the document, or None."""
    sets = [None] + plain_sets(rows, colour, 2 * most)
    for length in range(1, most):
        for start in range(1, most - length + 1):
            if all(sets[n] == sets[n + length] for n in range(start, 2 * start + length + 1)):
                return (start, length)
    return None


def some_pairs():
    """Some tables, as rows, with some of their colours."""
    found = [(rows, colour) for rows in list(all_rows(1)) + list(all_rows(2)) for colour in range(len(rows))]
    found += [(rows, colour) for rows in list(all_rows(3))[::5] for colour in (0, 2)]
    found += [(mixed_rows(size, seed), seed % size) for size in range(4, 9) for seed in range(6)]
    return found + [(rows, 0) for rows in some_rows()[-60:]]


class PowerSetsTest(unittest.TestCase):
    def test_against_combining_each_part_with_the_rest(self):
        for rows in some_rows():
            for colour in range(len(rows)):
                self.assertEqual(power_sets(Table(rows), colour, 20), plain_sets(rows, colour, 20))

    def test_up_to_200(self):
        for rows in (cycle_rows(8), doubling_rows(8), mixed_rows(8, 1), mixed_rows(5, 2), [[1, 0], [0, 0]], [[0]]):
            expected = plain_sets(rows, 0, 200)
            for many in (1, 2, 3, 99, 100, 101, 199, 200):
                self.assertEqual(power_sets(Table(rows), 0, many), expected[:many])

    def test_against_all_draws(self):
        for rows in some_rows():
            known = {}
            for colour in range(len(rows)):
                sets = power_sets(Table(rows), colour, 6)
                for count in range(1, 7):
                    counts = tuple(count if other == colour else 0 for other in range(len(rows)))
                    self.assertEqual(sets[count - 1], sorted(searched_last_beans(rows, counts, known)))

    def test_kinds_and_new_lists(self):
        sets = power_sets(NOR, 0, 8)
        self.assertIsInstance(sets, list)
        for one in sets:
            self.assertIsInstance(one, list)
            one.append(7)
        sets.clear()
        self.assertEqual(power_sets(NOR, 0, 8), [[0], [1], [0], [0, 1], [0, 1], [0, 1], [0, 1], [0, 1]])
        sets = power_sets(NOR, 0, 8)
        sets[5].clear()
        self.assertEqual(sets[6], [0, 1])

    def test_errors(self):
        for value in no_colours(2):
            for many in (1, 0, "x"):
                with self.assertRaises(InvalidColour) as caught:
                    power_sets(NOR, value, many)
                self.assertIs(caught.exception.value, value)
        for value in no_numbers(1, 200):
            with self.assertRaises(InvalidNumber) as caught:
                power_sets(NOR, 1, value)
            self.assertIs(caught.exception.value, value)


class PeriodTest(unittest.TestCase):
    def check(self, rows, colour, most):
        expected = plain_period(rows, colour, most)
        if expected is not None:
            self.assertEqual(period(Table(rows), colour, most=most), expected)
        else:
            with self.assertRaises(LimitExceeded) as caught:
                period(Table(rows), colour, most=most)
            self.assertEqual(caught.exception.limit, most)

    def test_against_twice_as_many_sets_as_the_limit(self):
        for rows in some_rows():
            for colour in range(len(rows)):
                self.check(rows, colour, 60 if colour == 0 else 20)

    def test_just_at_the_limit_and_beyond(self):
        for rows, colour in some_pairs():
            start, length = plain_period(rows, colour, 100)
            for most in range(max(2, start + length - 2), min(100, start + length + 1) + 1):
                self.assertIs(plain_period(rows, colour, most) is None, start + length > most)
                self.check(rows, colour, most)

    def test_kinds(self):
        self.assertEqual(period(NOR, 0), (4, 1))
        self.assertIsInstance(period(NOR, 0), tuple)
        self.assertEqual(period(XOR, 0), (1, 1))
        self.assertEqual(period(XOR, 1), (1, 2))
        self.assertEqual(period(Table(rows_of(8, lambda a, b: (a + b) % 8)), 1, most=9), (1, 8))
        with self.assertRaises(LimitExceeded):
            period(Table(rows_of(8, lambda a, b: (a + b) % 8)), 1, most=8)

    def test_where_only_doubling_leads_on(self):
        for size in range(2, 9):
            table = Table(doubling_rows(size))
            for first in range(size):
                # The colour after so many doublings occurs with this number of beans only.
                last = 2 ** max(0, size - 2 - first) if first < size - 1 else 0
                self.assertEqual(period(table, first, most=100), (last + 1, 1))
                if last + 2 <= 60:
                    self.assertEqual(period(table, first), (last + 1, 1))
        with self.assertRaises(LimitExceeded) as caught:
            period(STEPS, 0)
        self.assertEqual(caught.exception.limit, 60)
        with self.assertRaises(LimitExceeded) as caught:
            period(STEPS, 0, most=65)
        self.assertEqual(caught.exception.limit, 65)
        self.assertEqual(period(STEPS, 0, most=66), (65, 1))

    def test_doublings_that_lead_back(self):
        for size in range(3, 9):
            start, length = 3, 2 ** (size - 1) - 1
            for names in (list(range(size)), list(range(size))[::-1], list(range(1, size)) + [0]):
                table = Table(cycle_rows(size)).renamed(names)
                for most in (2, 9, 60, 65, 66, 100, start + length - 1, start + length):
                    if start + length <= most <= 100:
                        self.assertEqual(period(table, names[0], most=most), (start, length))
                    elif most <= 100:
                        with self.assertRaises(LimitExceeded) as caught:
                            period(table, names[0], most=most)
                        self.assertEqual(caught.exception.limit, most)

    def test_periods_of_sums_and_of_tables_that_begin_late(self):
        for size in range(1, 9):
            sums = Table(rows_of(size, lambda a, b: (a + b) % size))
            for colour in range(size):
                # Colour 0 comes first after size, size / 2, .. beans.
                least = next(n for n in range(1, size + 1) if n * colour % size == 0)
                self.assertEqual(period(sums, colour), (1, least))
            highest = Table(rows_of(size, lambda a, b: min(a + b + 1, size - 1)))
            self.assertEqual(period(highest, 0), (size, 1))
        mixed = Table(rows_of(6, lambda a, b: min(a + b + 1, 3 + (a + b + 1 - 3) % 3)))
        self.assertEqual(period(mixed, 0), (4, 3))

    def test_errors(self):
        for value in no_colours(2):
            for most in (2, 1, None):
                with self.assertRaises(InvalidColour) as caught:
                    period(NOR, value, most=most)
                self.assertIs(caught.exception.value, value)
        for value in no_numbers(2, 100):
            with self.assertRaises(InvalidNumber) as caught:
                period(NOR, 0, most=value)
            self.assertIs(caught.exception.value, value)
        self.assertEqual((period(XOR, 0, most=2), period(NOR, 0, most=100)), ((1, 1), (4, 1)))
        for most in (2, 3, 4):
            with self.assertRaises(LimitExceeded) as caught:
                period(NOR, 0, most=most)
            self.assertEqual(caught.exception.limit, most)


class BeansOfManyTest(unittest.TestCase):
    def test_small_numbers(self):
        for rows, colour in some_pairs()[::2]:
            sets = plain_sets(rows, colour, 120)
            for count in (1, 2, 3, 4, 5, 7, 8, 16, 19, 33, 61, 97, 120):
                found = beans_of_many(Table(rows), colour, count, most=100)
                self.assertIsInstance(found, list)
                self.assertEqual(found, sets[count - 1])

    def test_great_numbers(self):
        for rows, colour in some_pairs()[::3] + [(cycle_rows(7), 0), (doubling_rows(8), 0)]:
            start, length = plain_period(rows, colour, 100)
            sets = plain_sets(rows, colour, start + length)
            for count in (10 ** 3, BIG, BIG + 1, BIG + 2, 7 * BIG + 3, 10 ** 59 + 11, 10 ** 90):
                at = (count - start) % length
                found = beans_of_many(Table(rows), colour, count, most=100)
                self.assertEqual(found, sets[start + at - 1])

    def test_great_powers_of_two(self):
        # With the cycle, the first colours occur at the powers of two.
        for power in range(3, 150):
            self.assertEqual(beans_of_many(Table(cycle_rows(5)), 0, 2 ** power), [power % 4, 4])

    def test_new_lists(self):
        beans_of_many(NOR, 0, BIG).clear()
        self.assertEqual(beans_of_many(NOR, 0, BIG), [0, 1])

    def test_errors(self):
        for value in no_colours(2):
            with self.assertRaises(InvalidColour) as caught:
                beans_of_many(NOR, value, 0, most=0)
            self.assertIs(caught.exception.value, value)
        for value in no_numbers(1):
            with self.assertRaises(InvalidNumber) as caught:
                beans_of_many(NOR, 0, value, most="x")
            self.assertIs(caught.exception.value, value)
        for value in no_numbers(2, 100):
            with self.assertRaises(InvalidNumber) as caught:
                beans_of_many(NOR, 0, 1, most=value)
            self.assertIs(caught.exception.value, value)


def is_plain_power_table(rows, colour, value):
    """Whether a value is a power table, by the words of the document and many sets."""
    size = len(rows)
    if not isinstance(value, tuple) or len(value) != 2:
        return False
    start, sets = value
    if not isinstance(sets, list) or not 1 <= len(sets) <= 100:
        return False
    if not isinstance(start, int) or isinstance(start, bool) or not 1 <= start <= len(sets):
        return False
    for one in sets:
        if not isinstance(one, list):
            return False
        if not all(isinstance(c, int) and not isinstance(c, bool) and 0 <= c < size for c in one):
            return False
    many = plain_sets(rows, colour, 400)
    length = len(sets) + 1 - start
    return sets == many[:len(sets)] and all(many[n - 1] == many[n - 1 + length] for n in range(start, 400 - length))


def changed_power_tables(start, sets, size):
    """Values that differ a little from a power table."""
    for at in range(len(sets)):
        before, one, behind = sets[:at], sets[at], sets[at + 1:]
        for colour in range(size):
            other = [c for c in one if c != colour] if colour in one else sorted(one + [colour])
            yield (start, before + [other] + behind)
        for other in (one[::-1], one + one[:1], one[:1] + one, [], tuple(one), None, one + [size], [-1] + one,
                      [bool(c) for c in one], [str(c) for c in one], [one], dict.fromkeys(one), set(one), 0):
            yield (start, before + [other] + behind)
        yield (start, before + behind)
        yield (start, before + [one, one] + behind)
    for other in range(-1, len(sets) + 3):
        yield (other, sets)
    for wrong in (None, True, "1", [start], (start,), start + len(sets), Touchy(), Agreeable()):
        yield (wrong, sets)
    for many in range(len(sets) + 1):
        yield (start, sets[:many])
        yield (min(start, many), sets[:many])
    yield (start, tuple(sets))
    yield [start, sets]
    yield (start, sets, start)
    yield (sets, start)
    yield (start,)
    yield sets
    yield {start: sets}


class PowerTableTest(unittest.TestCase):
    def test_least_period_and_start(self):
        for rows, colour in some_pairs() + [(cycle_rows(7), 0), (doubling_rows(8), 0)]:
            start, length = plain_period(rows, colour, 100)
            found = power_table(Table(rows), colour, most=100)
            self.assertEqual(found, (start, plain_sets(rows, colour, start + length - 1)))
            self.assertIsInstance(found, tuple)
            self.assertIsInstance(found[1], list)
            self.assertIs(is_power_table(Table(rows), colour, found), True)
        self.assertEqual(power_table(NOR, 0), (4, [[0], [1], [0], [0, 1]]))
        self.assertEqual(power_table(XOR, 1, most=3), (1, [[1], [0]]))

    def test_returned_lists_can_be_changed(self):
        found = power_table(NOR, 0)
        found[1][3].clear()
        found[1].clear()
        self.assertEqual(power_table(NOR, 0), (4, [[0], [1], [0], [0, 1]]))

    def test_later_starts_and_multiples_of_the_period(self):
        for rows, colour in some_pairs()[::7] + [(cycle_rows(5), 0), (cycle_rows(7), 0)]:
            start, length = plain_period(rows, colour, 100)
            sets = plain_sets(rows, colour, 101)
            for many in [1, 2, 3, 5, 7, 16, 17, 18, 32, 33, 65, 66, 98, 99, 100, 101]:
                for first in {start - 1, start, start + 1, many - 1, many, many - length, many + 1 - length,
                              many + 1 - 2 * length, 1}:
                    right = start <= first <= many <= 100 and (many + 1 - first) % length == 0
                    self.assertIs(is_power_table(Table(rows), colour, (first, sets[:many])), right)

    def test_at_most_100_lists(self):
        self.assertIs(is_power_table(Table([[0]]), 0, (1, [[0]] * 100)), True)
        self.assertIs(is_power_table(Table([[0]]), 0, (100, [[0]] * 100)), True)
        self.assertIs(is_power_table(Table([[0]]), 0, (1, [[0]] * 101)), False)
        self.assertIs(is_power_table(Table([[0]]), 0, (1, [[0]] * 1000)), False)
        self.assertIs(is_power_table(Table([[0]]), 0, (1, [])), False)
        self.assertIs(is_power_table(Table([[0]]), 0, (0, [])), False)

    def test_sets_that_repeat_for_a_while_only(self):
        # The sets of 33 to 63 beans are equal, but 64 beans can lead to one colour more.
        sets = plain_sets(doubling_rows(8), 0, 100)
        self.assertEqual(len({str(one) for one in sets[32:63]}), 1)
        for many in range(33, 101):
            self.assertIs(is_power_table(STEPS, 0, (33, sets[:many])), False)
            self.assertIs(is_power_table(STEPS, 0, (many, sets[:many])), many >= 65)

    def test_changed_ones(self):
        for rows, colour in some_pairs()[::5] + [(cycle_rows(4), 0), (doubling_rows(5), 0)]:
            start, sets = power_table(Table(rows), colour, most=100)
            for value in changed_power_tables(start, sets, len(rows)):
                right = is_plain_power_table(rows, colour, value)
                self.assertIs(is_power_table(Table(rows), colour, value), right)

    def test_any_value(self):
        for value in no_sequences() + [[], (), [1, [[0]]], (1,), ((1, [[0]]),), (1, [[Touchy()]]), (1, [Touchy()]),
                                       (1, [[Agreeable()]]), (1, [Agreeable()]), (1, Agreeable()), (1, Touchy()),
                                       (Touchy(), Touchy()), (1, [[False]]), (True, [[0]]), (1, [[0, 0]]), (1, [(0,)])]:
            self.assertIs(is_power_table(Table([[0]]), 0, value), False)
        self.assertIs(is_power_table(Table([[0]]), 0, (1, [[0]])), True)

    def test_values_are_not_changed(self):
        value = (4, [[0], [1], [0], [0, 1]])
        self.assertIs(is_power_table(NOR, 0, value), True)
        self.assertEqual(value, (4, [[0], [1], [0], [0, 1]]))

    def test_errors(self):
        for value in no_colours(2):
            for call in (lambda: power_table(NOR, value, most=None), lambda: is_power_table(NOR, value, None)):
                with self.assertRaises(InvalidColour) as caught:
                    call()
                self.assertIs(caught.exception.value, value)
        for value in no_numbers(2, 100):
            with self.assertRaises(InvalidNumber) as caught:
                power_table(NOR, 0, most=value)
            self.assertIs(caught.exception.value, value)


class LeadingTest(unittest.TestCase):
    def test_small_numbers(self):
        for rows, colour in some_pairs()[::4]:
            table, size = Table(rows), len(rows)
            sets = plain_sets(rows, colour, 120)
            for wanted in {0, size - 1, colour}:
                numbers = [count for count in range(1, 121) if wanted in sets[count - 1]]
                for high in (0, 1, 2, 5, 50, 120):
                    many = len([count for count in numbers if count <= high])
                    self.assertEqual(count_leading(table, colour, wanted, high, most=100), many)
                for number in (1, 2, 3, 10, len(numbers)):
                    if 1 <= number <= len(numbers):
                        found = nth_leading(table, colour, wanted, number, most=100)
                        self.assertEqual(found, numbers[number - 1])

    def test_few_numbers_only(self):
        for number, expected in ((1, 1), (2, 3), (3, 4), (4, 5)):
            self.assertEqual(nth_leading(NOR, 0, 0, number), expected)
        for colour in range(7):
            self.assertEqual(nth_leading(STEPS, 0, colour, 1, most=66), 2 ** colour)
            for number in (2, 3, BIG):
                self.assertIsNone(nth_leading(STEPS, 0, colour, number, most=66))
            for high in (2 ** colour, BIG):
                self.assertEqual(count_leading(STEPS, 0, colour, high, most=66), 1)
            self.assertEqual(count_leading(STEPS, 0, colour, 2 ** colour - 1, most=66), 0)
        self.assertIsNone(nth_leading(STEPS, 3, 2, 1))
        self.assertEqual(count_leading(STEPS, 3, 2, BIG), 0)

    def test_great_numbers_by_arithmetic(self):
        for size in range(1, 9):
            sums = Table(rows_of(size, lambda a, b: (a + b) % size))
            for wanted in range(size):
                # One bean of colour 1 more or less, so the numbers are those with the rest wanted.
                first = wanted if wanted > 0 else size
                for number in (1, 2, BIG, BIG + 5, 10 ** 59):
                    self.assertEqual(nth_leading(sums, 1 % size, wanted, number), first + (number - 1) * size)
                for high in (first - 1, first, BIG, BIG + 1, BIG + 2, 10 ** 59 + 3):
                    many = 0 if high < first else (high - first) // size + 1
                    self.assertEqual(count_leading(sums, 1 % size, wanted, high), many)

    def test_great_numbers_against_each_other(self):
        for rows, colour in some_pairs()[::9] + [(cycle_rows(7), 0)]:
            table, size = Table(rows), len(rows)
            for wanted in range(size):
                for high in (BIG, 3 * BIG + 17):
                    many = count_leading(table, colour, wanted, high, most=100)
                    before = count_leading(table, colour, wanted, high - 1, most=100)
                    self.assertEqual(many - before, int(wanted in beans_of_many(table, colour, high, most=100)))
                    if many > 100:
                        found = nth_leading(table, colour, wanted, many, most=100)
                        self.assertLessEqual(found, high)
                        self.assertGreater(nth_leading(table, colour, wanted, many + 1, most=100), high)
                        self.assertIn(wanted, beans_of_many(table, colour, found, most=100))
                        self.assertEqual(count_leading(table, colour, wanted, found, most=100), many)

    def test_errors(self):
        calls = ((count_leading, 0), (nth_leading, 1))
        for call, least in calls:
            for value in no_colours(2):
                with self.assertRaises(InvalidColour) as caught:
                    call(NOR, value, "wanted", least - 1, most=1)
                self.assertIs(caught.exception.value, value)
                with self.assertRaises(InvalidColour) as caught:
                    call(NOR, 0, value, least - 1, most=1)
                self.assertIs(caught.exception.value, value)
            for value in no_numbers(least):
                with self.assertRaises(InvalidNumber) as caught:
                    call(NOR, 0, 1, value, most=1)
                self.assertIs(caught.exception.value, value)
            for value in no_numbers(2, 100):
                with self.assertRaises(InvalidNumber) as caught:
                    call(NOR, 0, 1, least, most=value)
                self.assertIs(caught.exception.value, value)


def plain_difference(rows, other, colour):
    """The least number of beans for which the sets of two tables differ among the first 300, or None."""
    for count in range(1, 301):
        if plain_sets(rows, colour, count)[-1] != plain_sets(other, colour, count)[-1]:
            return count
    return None


class FirstDifferenceTest(unittest.TestCase):
    def test_against_comparing(self):
        for one, other in product(list(all_rows(2)), repeat=2):
            for colour in (0, 1):
                expected = plain_difference(one, other, colour)
                self.assertEqual(first_difference(Table(one), Table(other), colour), expected)
        rows = list(all_rows(3))[::37]
        for one, other in product(rows, repeat=2):
            self.assertEqual(first_difference(Table(one), Table(other), 0), plain_difference(one, other, 0))

    def test_late_differences(self):
        # The two tables differ in what two beans of the last colour but one give.
        for size in range(3, 9):
            one, other = doubling_rows(size), doubling_rows(size)
            other[size - 2][size - 2] = size - 2
            expected = 2 ** (size - 1)
            self.assertEqual(plain_difference(one, other, 0), expected)
            for first, second in ((one, other), (other, one)):
                self.assertEqual(first_difference(Table(first), Table(second), 0, most=100), expected)

    def test_differences_after_both_starts(self):
        # The sums repeat with other periods, and differ first after more beans than either period.
        for one, other in product(range(2, 9), repeat=2):
            first = Table(rows_of(8, lambda a, b: (a + b) % one if a < one and b < one else 7))
            second = Table(rows_of(8, lambda a, b: (a + b) % other if a < other and b < other else 7))
            expected = None if one == other else min(one, other)
            self.assertEqual(first_difference(first, second, 1), expected)

    def test_equal_for_all_numbers(self):
        for rows in some_rows()[::9]:
            self.assertIsNone(first_difference(Table(rows), Table(rows), 0, most=100))
        self.assertIsNone(first_difference(Table([[0, 0], [0, 1]]), Table([[0, 1], [1, 0]]), 0))
        self.assertEqual(first_difference(Table([[0, 0], [0, 1]]), Table([[0, 1], [1, 0]]), 1), 2)

    def test_start_and_period_of_both_tables_count(self):
        plain = Table(rows_of(7, lambda a, b: 6))
        for one, other in ((CYCLE_7, plain), (plain, CYCLE_7), (CYCLE_7, CYCLE_7)):
            for most in (2, 3, 60, 65):
                with self.assertRaises(LimitExceeded) as caught:
                    first_difference(one, other, 0, most=most)
                self.assertEqual(caught.exception.limit, most)
        self.assertEqual(first_difference(CYCLE_7, plain, 0, most=66), 2)
        self.assertEqual(first_difference(plain, CYCLE_7, 0, most=66), 2)
        self.assertIsNone(first_difference(CYCLE_7, CYCLE_7, 0, most=66))

    def test_errors(self):
        for size in (1, 3, 8):
            for colour, most in ((0, 60), ("x", 60), (0, 1)):
                with self.assertRaises(WrongSize):
                    first_difference(NOR, Table([[0] * size] * size), colour, most=most)
        for value in no_colours(2):
            with self.assertRaises(InvalidColour) as caught:
                first_difference(NOR, XOR, value, most=1)
            self.assertIs(caught.exception.value, value)
        for value in no_numbers(2, 100):
            with self.assertRaises(InvalidNumber) as caught:
                first_difference(NOR, XOR, 0, most=value)
            self.assertIs(caught.exception.value, value)


class LimitTest(unittest.TestCase):
    def calls(self, table, **most):
        return [lambda: period(table, 0, **most), lambda: power_table(table, 0, **most),
                lambda: beans_of_many(table, 0, 1, **most), lambda: beans_of_many(table, 0, BIG, **most),
                lambda: count_leading(table, 0, 0, 0, **most), lambda: count_leading(table, 0, 0, BIG, **most),
                lambda: nth_leading(table, 0, 0, 1, **most), lambda: nth_leading(table, 0, 0, BIG, **most),
                lambda: first_difference(table, table, 0, **most)]

    def test_the_limit_is_60_if_none_is_passed(self):
        for table in (CYCLE_7, CYCLE_8, STEPS):
            for call in self.calls(table):
                with self.assertRaises(LimitExceeded) as caught:
                    call()
                self.assertEqual(caught.exception.limit, 60)
        # Start and period of this table are 3 and 31.
        for call in self.calls(Table(cycle_rows(6))):
            call()

    def test_each_limit(self):
        for table, least in ((CYCLE_7, 66), (STEPS, 66), (NOR, 5), (Table(cycle_rows(4)), 10)):
            for most in (least - 1, least - 2, 2):
                for call in self.calls(table, most=most):
                    with self.assertRaises(LimitExceeded) as caught:
                        call()
                    self.assertEqual(caught.exception.limit, most)
            for most in (least, least + 1, 100):
                for call in self.calls(table, most=most):
                    call()

    def test_more_than_the_greatest_limit(self):
        for call in self.calls(CYCLE_8, most=100):
            with self.assertRaises(LimitExceeded) as caught:
                call()
            self.assertEqual(caught.exception.limit, 100)

    def test_by_name(self):
        self.assertEqual(power_sets(many=2, colour=0, table=NOR), [[0], [1]])
        self.assertEqual(period(most=5, colour=0, table=NOR), (4, 1))
        self.assertEqual(beans_of_many(most=5, count=2, colour=0, table=NOR), [1])
        self.assertEqual(power_table(most=5, colour=0, table=NOR), (4, [[0], [1], [0], [0, 1]]))
        self.assertIs(is_power_table(value=(1, [[0]]), colour=0, table=NOR), False)
        self.assertEqual(count_leading(most=5, high=4, wanted=1, colour=0, table=NOR), 2)
        self.assertEqual(nth_leading(most=5, number=2, wanted=1, colour=0, table=NOR), 4)
        self.assertEqual(first_difference(most=5, colour=0, other=XOR, table=NOR), 2)


if __name__ == "__main__":
    unittest.main()
