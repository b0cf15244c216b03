import unittest
from fractions import Fraction
from itertools import product
from math import comb, gcd

from beanjars.chances import after_draws, chance_of, chance_of_way, chances, count_ways
from beanjars.errors import EmptyJar, InvalidNumber, InvalidWanted, InvalidWay, LimitExceeded, WrongSize
from beanjars.jars import Jar
from beanjars.possible import last_beans
from beanjars.tables import Table
from samples import Agreeable, Touchy, all_counts, all_rows, draws_and_jars, mixed_rows, no_different_colours, \
    no_numbers, no_sequences, rows_of, some_rows

NOR = Table([[1, 0], [0, 0]])
XOR = Table([[0, 1], [1, 0]])
MIXED = Table(mixed_rows(3, 4))
BIG = 10 ** 59 + 3
# For each number of colours the most beans of a small jar.
MOST = {1: 30, 2: 30, 3: 12, 4: 8, 5: 6, 6: 5, 7: 4, 8: 4}


def share_of(counts, draw):
    """The chance of a draw."""
    a, b = draw
    pairs = comb(counts[a], 2) if a == b else counts[a] * counts[b]
    return Fraction(pairs, comb(sum(counts), 2))


def plain_chances(rows, counts, known):
    """The chances of all colours, by adding up over the first draw."""
    if counts not in known:
        if sum(counts) == 1:
            return [Fraction(count) for count in counts]
        found = [Fraction(0)] * len(counts)
        for draw, left in draws_and_jars(rows, counts):
            for colour, chance in enumerate(plain_chances(rows, left, known)):
                found[colour] += share_of(counts, draw) * chance
        known[counts] = found
    return known[counts]


def plain_ways(rows, counts):
    """All ways of a jar, each with its last bean."""
    if sum(counts) == 1:
        return [([], counts.index(1))]
    return [([draw] + way, bean) for draw, left in draws_and_jars(rows, counts) for way, bean in plain_ways(rows, left)]


def counted_ways(rows, counts, known):
    """The numbers of ways to all colours, by adding up over the first draw."""
    if sum(counts) == 1:
        return list(counts)
    if counts not in known:
        numbers = [counted_ways(rows, left, known) for draw, left in draws_and_jars(rows, counts)]
        known[counts] = [sum(column) for column in zip(*numbers)]
    return known[counts]


def pair(chance):
    """A fraction as the package returns it."""
    return (chance.numerator, chance.denominator)


def next_chances(rows, level):
    """The chances of the jars after one draw more."""
    found = {}
    for counts, chance in level.items():
        for draw, left in draws_and_jars(rows, counts):
            found[left] = found.get(left, 0) + chance * share_of(counts, draw)
    return found


def limit_jars():
    """The counts of jars that are just small, of several forms."""
    found = []
    for size, most in MOST.items():
        found.append((most,) + (0,) * (size - 1))
        found.append((0,) * (size - 1) + (most,))
        found.append(tuple(most // size + (1 if colour < most % size else 0) for colour in range(size)))
    return found


def jars_beyond():
    """The counts of jars that are just not small, or far from it."""
    found = []
    for size, most in MOST.items():
        for total in (most + 1, most + 2, 31, 100, BIG):
            found.append((total,) + (0,) * (size - 1))
            found.append((1,) * min(size - 1, 3) + (0,) * max(size - 4, 0) + (total - min(size - 1, 3),))
    return found


def calls_of(table, jar):
    """A call of each function of chances."""
    return [lambda: chances(table, jar), lambda: chance_of(table, jar, [0]), lambda: chance_of(table, jar, None),
            lambda: count_ways(table, jar), lambda: after_draws(table, jar, 0), lambda: after_draws(table, jar, -1),
            lambda: chance_of_way(table, jar, None), lambda: chance_of_way(table, jar, [(0, 0)])]


class ChancesTest(unittest.TestCase):
    def check(self, rows, counts, known):
        expected = plain_chances(rows, counts, known)
        found = chances(Table(rows), Jar(counts))
        self.assertIsInstance(found, list)
        self.assertEqual(found, [pair(chance) for chance in expected])
        for part, whole in found:
            self.assertIsInstance(part, int)
            self.assertGreaterEqual(whole, 1)
            self.assertEqual(gcd(part, whole), 1)
        self.assertEqual(sum(Fraction(*chance) for chance in found), 1)

    def test_against_adding_up_over_the_first_draw(self):
        for rows in list(all_rows(1)) + list(all_rows(2)):
            known = {}
            for counts in all_counts(len(rows), 7):
                self.check(rows, counts, known)
        for rows in list(all_rows(3))[::9] + [mixed_rows(size, seed) for size in range(4, 9) for seed in range(4)]:
            known = {}
            for counts in all_counts(len(rows), 4 if len(rows) < 6 else 3):
                self.check(rows, counts, known)

    def test_at_the_limits(self):
        for counts in limit_jars():
            for seed in range(2):
                self.check(mixed_rows(len(counts), seed), counts, {})
        for counts in product(range(31), repeat=2):
            if sum(counts) == 30 and counts[0] % 4 == 1:
                self.check([[1, 0], [0, 0]], counts, {})

    def test_first_draws_count_too(self):
        for rows in [mixed_rows(size, seed) for size in (2, 3, 4) for seed in range(5)]:
            for counts in all_counts(len(rows), 5):
                total = [Fraction(0)] * len(rows)
                for draw, left in draws_and_jars(rows, counts):
                    for colour, chance in enumerate(chances(Table(rows), Jar(left))):
                        total[colour] += share_of(counts, draw) * Fraction(*chance)
                if sum(counts) > 1:
                    self.assertEqual(chances(Table(rows), Jar(counts)), [pair(chance) for chance in total])

    def test_greater_than_0_exactly_for_the_possible_last_beans(self):
        for rows in some_rows()[::11]:
            for counts in list(all_counts(len(rows), 4 if len(rows) < 5 else 3))[::5]:
                found = chances(Table(rows), Jar(counts))
                possible = [colour for colour in range(len(rows)) if found[colour][0] > 0]
                self.assertEqual(possible, last_beans(Table(rows), Jar(counts)))

    def test_one_bean_and_chances_0_and_1(self):
        for size in range(1, 9):
            for colour in range(size):
                jar = Jar.of_beans(size, [colour])
                expected = [(1, 1) if other == colour else (0, 1) for other in range(size)]
                self.assertEqual(chances(Table(mixed_rows(size, 3)), jar), expected)
        self.assertEqual(chances(XOR, Jar([7, 15])), [(0, 1), (1, 1)])

    def test_returned_lists_can_be_changed(self):
        chances(NOR, Jar([2, 1])).clear()
        count_ways(NOR, Jar([2, 1])).clear()
        after_draws(NOR, Jar([2, 1]), 1).clear()
        self.assertEqual(chances(NOR, Jar([2, 1])), [(1, 3), (2, 3)])
        self.assertEqual(count_ways(NOR, Jar([2, 1])), [1, 1])
        self.assertEqual(after_draws(NOR, Jar([2, 1]), 1), [((0, 2), (1, 3)), ((2, 0), (2, 3))])


class ChanceOfTest(unittest.TestCase):
    def test_sums_of_chances(self):
        for rows in [mixed_rows(size, seed) for size in range(1, 9) for seed in range(4)]:
            table, size = Table(rows), len(rows)
            for counts in ((2, 1, 0, 0, 0, 0, 1, 0), (1, 2, 1, 0, 0, 0, 0, 0), (1, 0, 0, 0, 1, 0, 0, 2)):
                jar = Jar(counts[:size])
                found = chances(table, jar)
                for number in range(2 ** size):
                    wanted = [colour for colour in range(size) if number >> colour & 1]
                    total = sum((Fraction(*found[colour]) for colour in wanted), Fraction(0))
                    for given in (wanted, wanted[::-1], tuple(wanted)):
                        self.assertEqual(chance_of(table, jar, given), pair(total))

    def test_none_and_all(self):
        for size, most in MOST.items():
            table, jar = Table(mixed_rows(size, 1)), Jar([most] + [0] * (size - 1))
            for empty in ([], ()):
                self.assertEqual(chance_of(table, jar, empty), (0, 1))
            self.assertEqual(chance_of(table, jar, list(range(size))), (1, 1))
            self.assertEqual(chance_of(table, jar, tuple(range(size))[::-1]), (1, 1))

    def test_wrong_wanted(self):
        for table, jar in ((NOR, Jar([2, 1])), (MIXED, Jar([2, 1, 3])), (Table([[0]]), Jar([1]))):
            for wanted in no_different_colours(table.size):
                with self.assertRaises(InvalidWanted):
                    chance_of(table, jar, wanted)

    def test_wanted_is_not_modified(self):
        wanted = [1, 0]
        chance_of(NOR, Jar([3, 3]), wanted)
        self.assertEqual(wanted, [1, 0])


class CountWaysTest(unittest.TestCase):
    def test_against_counting(self):
        for rows in list(all_rows(2)) + list(all_rows(3))[::40] + [mixed_rows(size, 5) for size in range(1, 9)]:
            for counts in all_counts(len(rows), 5 if len(rows) < 4 else 3):
                ways = plain_ways(rows, counts)
                self.assertEqual(len(ways), len({str(way) for way, bean in ways}))
                numbers = [len([way for way, bean in ways if bean == colour]) for colour in range(len(rows))]
                found = count_ways(Table(rows), Jar(counts))
                self.assertIsInstance(found, list)
                self.assertEqual(found, numbers)

    def test_at_the_limits(self):
        for counts in limit_jars():
            for seed in range(3):
                rows = mixed_rows(len(counts), seed)
                self.assertEqual(count_ways(Table(rows), Jar(counts)), counted_ways(rows, counts, {}))

    def test_one_bean(self):
        for size in range(1, 9):
            counts = [0] * (size - 1) + [1]
            self.assertEqual(count_ways(Table(mixed_rows(size, 1)), Jar(counts)), counts)


class AfterDrawsTest(unittest.TestCase):
    def check(self, rows, counts):
        level = {counts: Fraction(1)}
        for many in range(sum(counts)):
            found = after_draws(Table(rows), Jar(counts), many)
            self.assertIsInstance(found, list)
            self.assertEqual(found, [(left, pair(level[left])) for left in sorted(level)])
            for left, chance in found:
                self.assertIsInstance(left, tuple)
                self.assertGreater(chance[0], 0)
            level = next_chances(rows, level)

    def test_from_one_number_to_the_next(self):
        for rows in list(all_rows(2)) + [mixed_rows(size, seed) for size in range(1, 9) for seed in range(5)]:
            for counts in list(all_counts(len(rows), 5 if len(rows) < 4 else 3))[::2]:
                self.check(rows, counts)

    def test_at_the_limits(self):
        for counts in limit_jars():
            self.check(mixed_rows(len(counts), 7), counts)

    def test_no_draws_and_all_draws(self):
        for counts in all_counts(3, 5):
            self.assertEqual(after_draws(MIXED, Jar(counts), 0), [(counts, (1, 1))])
            ends = after_draws(MIXED, Jar(counts), sum(counts) - 1)
            expected = [(0, 1)] * 3
            for left, chance in ends:
                expected[left.index(1)] = chance
            self.assertEqual(chances(MIXED, Jar(counts)), expected)

    def test_wrong_numbers(self):
        for counts in ((1, 0), (0, 1), (2, 1), (15, 15)):
            for many in no_numbers(0, sum(counts) - 1):
                with self.assertRaises(InvalidNumber) as caught:
                    after_draws(NOR, Jar(counts), many)
                self.assertIs(caught.exception.value, many)


class ChanceOfWayTest(unittest.TestCase):
    def test_against_the_product_of_its_draws(self):
        for rows in [mixed_rows(size, seed) for size in range(1, 6) for seed in range(3)]:
            for counts in list(all_counts(len(rows), 4))[::3]:
                totals = [Fraction(0)] * len(rows)
                for way, bean in plain_ways(rows, counts):
                    expected, here = Fraction(1), counts
                    for draw in way:
                        expected *= share_of(here, draw)
                        here = dict(draws_and_jars(rows, here))[draw]
                    self.assertEqual(chance_of_way(Table(rows), Jar(counts), way), pair(expected))
                    totals[bean] += expected
                self.assertEqual(chances(Table(rows), Jar(counts)), [pair(total) for total in totals])

    def test_one_bean(self):
        self.assertEqual(chance_of_way(NOR, Jar([0, 1]), []), (1, 1))

    def test_long_ways(self):
        for counts in ((15, 15), (30, 0), (29, 1)):
            here, way, expected = counts, [], Fraction(1)
            while sum(here) > 1:
                draw, left = draws_and_jars(NOR.rows(), here)[-1]
                expected *= share_of(here, draw)
                way.append(draw)
                here = left
            self.assertEqual(chance_of_way(NOR, Jar(counts), way), pair(expected))
            self.assertEqual(len(way), 29)

    def test_wrong_ways(self):
        jar = Jar([2, 1])
        for way in [value for value in no_sequences()] + [(), ((0, 1), (0, 0)), "0-1"]:
            with self.assertRaises(InvalidWay) as caught:
                chance_of_way(NOR, jar, way)
            self.assertIsNone(caught.exception.index)
        for way, index in (([], 0), ([(0, 1)], 1), ([(1, 1)], 0), ([(1, 0), (0, 0)], 0), ([(0, 1), (0, 1)], 1),
                           ([(0, 1), (0, 0), (0, 0)], 2), ([(0, 0), (1, 1), (0, 0), None], 2), ([[0, 1], (0, 0)], 0),
                           ([None], 0), ([Touchy()], 0), ([Agreeable()], 0), ([(0, True)], 0), ([(0, 2)], 0),
                           ([(0, 1), Agreeable()], 1)):
            with self.assertRaises(InvalidWay) as caught:
                chance_of_way(NOR, jar, way)
            self.assertEqual(caught.exception.index, index)

    def test_ways_are_not_modified(self):
        way = [(0, 1), (0, 0)]
        self.assertEqual(chance_of_way(NOR, Jar([2, 1]), way), (2, 3))
        self.assertEqual(way, [(0, 1), (0, 0)])


class ErrorsTest(unittest.TestCase):
    def test_wrong_size_comes_first(self):
        for size in (1, 3, 8):
            for count in (0, 1, BIG):
                for call in calls_of(NOR, Jar([count] * size)):
                    with self.assertRaises(WrongSize):
                        call()

    def test_then_the_empty_jar(self):
        for size in range(1, 9):
            for call in calls_of(Table(mixed_rows(size, 2)), Jar([0] * size)):
                with self.assertRaises(EmptyJar):
                    call()

    def test_then_jars_that_are_not_small(self):
        for counts in jars_beyond():
            for call in calls_of(Table(mixed_rows(len(counts), 2)), Jar(counts)):
                with self.assertRaises(LimitExceeded) as caught:
                    call()
                self.assertEqual(caught.exception.limit, 500)

    def test_nothing_at_the_limits(self):
        for counts in limit_jars():
            table, jar = Table(rows_of(len(counts), max)), Jar(counts)
            self.assertEqual(chance_of(table, jar, [max(jar.colours())]), (1, 1))

    def test_small_jars_by_counting(self):
        for size, most in MOST.items():
            self.assertLessEqual(comb(most + size, size) - 1, 500)
            self.assertTrue(most == 30 or comb(most + 1 + size, size) - 1 > 500)

    def test_by_name(self):
        jar = Jar([2, 1])
        self.assertEqual(chances(jar=jar, table=NOR), [(1, 3), (2, 3)])
        self.assertEqual(chance_of(wanted=[1], jar=jar, table=NOR), (2, 3))
        self.assertEqual(count_ways(jar=jar, table=NOR), [1, 1])
        self.assertEqual(after_draws(many=0, jar=jar, table=NOR), [((2, 1), (1, 1))])
        self.assertEqual(chance_of_way(way=[(0, 1), (0, 0)], jar=jar, table=NOR), (2, 3))


if __name__ == "__main__":
    unittest.main()
