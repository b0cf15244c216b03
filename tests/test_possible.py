import unittest
from itertools import permutations, product

from beanjars.checks import passes
from beanjars.errors import EmptyJar, InvalidColour, LimitExceeded, NoWay, WrongSize
from beanjars.jars import Jar, last_of, played
from beanjars.possible import last_beans, way_to
from beanjars.products import last_bean
from beanjars.tables import Table
from samples import all_counts, all_rows, mixed_rows, no_colours, rows_of, searched_last_beans, some_rows

NOR = Table([[1, 0], [0, 0]])
BIG = 10 ** 59 + 3


def next_jars(rows, level):
    """All jars, as counts, that one draw leads to from a jar of a level."""
    found = set()
    size = len(rows)
    for counts in level:
        for a, b in product(range(size), repeat=2):
            rest = list(counts)
            rest[a] -= 1
            rest[b] -= 1
            rest[rows[a][b]] += 1
            if a <= b and counts[a] > 0 and counts[b] > 0 and (a != b or counts[a] > 1):
                found.add(tuple(rest))
    return found


def drawn_last_beans(rows, counts):
    """The possible last beans, by making all draws from all jars at the same time."""
    level = {tuple(counts)}
    for _ in range(sum(counts) - 1):
        level = next_jars(rows, level)
    return sorted(one.index(1) for one in level)


def many_beans_of_one_colour(rows, colour, many):
    """The possible last beans of 1, 2, .. beans of a colour, by the words of the document."""
    found = [None, {colour}]
    for count in range(2, many + 1):
        found.append({rows[x][y] for part in range(1, count) for x in found[part] for y in found[count - part]})
    return [sorted(one) for one in found[1:]]


class LastBeansTest(unittest.TestCase):
    def check(self, rows, counts, found):
        table, jar = Table(rows), Jar(counts)
        self.assertEqual(last_beans(table, jar), sorted(found))
        for colour in range(len(rows)):
            if colour in found:
                way = way_to(table, jar, colour)
                self.assertIsInstance(way, list)
                self.assertEqual(len(way), sum(counts) - 1)
                self.assertEqual(last_of(table, jar, way), colour)
            else:
                with self.assertRaises(NoWay):
                    way_to(table, jar, colour)

    def test_against_making_all_draws(self):
        for rows in list(all_rows(1)) + list(all_rows(2)):
            known = {}
            for counts in all_counts(len(rows), 9):
                self.check(rows, counts, searched_last_beans(rows, counts, known))

    def test_three_colours(self):
        for rows in list(all_rows(3)):
            known = {}
            for counts in all_counts(3, 5)[::3]:
                self.check(rows, counts, searched_last_beans(rows, counts, known))

    def test_more_colours(self):
        for rows in some_rows():
            known = {}
            for counts in all_counts(len(rows), 3) if len(rows) > 3 else []:
                self.check(rows, counts, searched_last_beans(rows, counts, known))

    def test_larger_jars(self):
        for seed in range(8):
            for counts in ((7, 6), (11, 3), (0, 12), (5, 14)):
                self.check(mixed_rows(2, seed), counts, drawn_last_beans(mixed_rows(2, seed), counts))
            for counts in ((4, 4, 4), (0, 7, 5), (9, 1, 2)):
                self.check(mixed_rows(3, seed), counts, drawn_last_beans(mixed_rows(3, seed), counts))
            for counts in ((2, 2, 2, 2), (3, 0, 3, 2)):
                self.check(mixed_rows(4, seed), counts, drawn_last_beans(mixed_rows(4, seed), counts))
            for counts in ((1,) * 7 + (0,), (0, 2, 1, 0, 1, 1, 2, 0)):
                self.check(mixed_rows(8, seed), counts, drawn_last_beans(mixed_rows(8, seed), counts))

    def test_one_bean(self):
        for rows in some_rows():
            for colour in range(len(rows)):
                counts = [1 if other == colour else 0 for other in range(len(rows))]
                self.check(rows, counts, [colour])
                self.assertEqual(way_to(Table(rows), Jar(counts), colour), [])

    def test_one_last_bean_if_the_table_passes(self):
        for rows in some_rows():
            jar = Jar([2, 1, 1, 1, 0, 2, 0, 1][:len(rows)])
            if passes(Table(rows)):
                self.assertEqual(last_beans(Table(rows), jar), [last_bean(Table(rows), jar)])

    def test_two_last_beans_of_three_beans_if_it_does_not(self):
        for rows in some_rows():
            many = [counts for counts in all_counts(len(rows), 3) if len(last_beans(Table(rows), Jar(counts))) > 1]
            self.assertIs(passes(Table(rows)), not many)

    def test_kinds_of_results(self):
        self.assertEqual(last_beans(NOR, Jar([2, 1])), [0, 1])
        self.assertEqual(way_to(NOR, Jar([2, 1]), 1), [(0, 1), (0, 0)])
        self.assertEqual(way_to(NOR, Jar([2, 1]), 0), [(0, 0), (1, 1)])
        for draw in way_to(Table(mixed_rows(4, 1)), Jar([3, 3, 2, 1]), last_beans(Table(mixed_rows(4, 1)),
                                                                                  Jar([3, 3, 2, 1]))[0]):
            self.assertIsInstance(draw, tuple)
            self.assertLessEqual(draw[0], draw[1])

    def test_by_name(self):
        self.assertEqual(last_beans(table=NOR, jar=Jar([2, 1])), [0, 1])
        self.assertEqual(way_to(table=NOR, jar=Jar([2, 1]), colour=1), [(0, 1), (0, 0)])

    def test_returned_lists_can_be_changed(self):
        jar = Jar([2, 1])
        last_beans(NOR, jar).clear()
        way_to(NOR, jar, 1).clear()
        self.assertEqual((last_beans(NOR, jar), way_to(NOR, jar, 1)), ([0, 1], [(0, 1), (0, 0)]))
        self.assertEqual((NOR.rows(), jar.counts()), ([[1, 0], [0, 0]], [2, 1]))

    def test_renamed_colours(self):
        for rows in list(all_rows(3))[::19]:
            for names in permutations(range(3)):
                table, jar = Table(rows), Jar([3, 1, 2])
                renamed = last_beans(table.renamed(names), jar.renamed(names))
                self.assertEqual(renamed, sorted(names[colour] for colour in last_beans(table, jar)))


class LimitTest(unittest.TestCase):
    def test_just_200_parts(self):
        for counts in ((199,), (1, 99), (99, 1), (3, 4, 9), (0, 199, 0), (1, 1, 1, 24), (4, 1, 4, 3),
                       (1, 1, 1, 4, 4), (0, 1, 1, 0, 1, 4, 4, 0)):
            for seed in range(3):
                rows = mixed_rows(len(counts), seed)
                table, jar = Table(rows), Jar(counts)
                found = last_beans(table, jar)
                for colour in range(len(rows)):
                    if colour in found:
                        jars = played(table, jar, way_to(table, jar, colour))
                        self.assertEqual(jars[-1].colours(), [colour])
                    else:
                        with self.assertRaises(NoWay):
                            way_to(table, jar, colour)

    def test_many_beans_of_one_colour(self):
        for size in range(1, 9):
            for seed in range(2):
                rows = mixed_rows(size, seed)
                expected = many_beans_of_one_colour(rows, 0, 199)
                for many in (1, 2, 3, 10, 57, 199):
                    jar = Jar([many] + [0] * (size - 1))
                    self.assertEqual(last_beans(Table(rows), jar), expected[many - 1])
                    for colour in expected[many - 1][-2:]:
                        self.assertEqual(last_of(Table(rows), jar, way_to(Table(rows), jar, colour)), colour)

    def test_ways_that_nest_deeply(self):
        # Only a bean of colour 0 drawn with a single one of colour 1 keeps the colour 1.
        rows = rows_of(3, lambda a, b: 1 if (a, b) in ((0, 1), (1, 0)) else 2)
        for counts in ((99, 1, 0), (65, 2, 0)):
            jar = Jar(counts)
            for colour in last_beans(Table(rows), jar):
                self.assertEqual(last_of(Table(rows), jar, way_to(Table(rows), jar, colour)), colour)
        self.assertEqual(way_to(Table(rows), Jar([99, 1, 0]), 1), [(0, 1)] * 99)

    def test_more_than_200_parts(self):
        for counts in ((200,), (2, 66), (66, 2), (0, 200, 0), (1, 100), (1,) * 8, (2, 2, 2, 2, 2), (BIG,) * 8,
                       (BIG,), (0, BIG, 0)):
            for table in (Table(rows_of(len(counts), max)), Table(mixed_rows(len(counts), 2))):
                for call in (lambda: last_beans(table, Jar(counts)), lambda: way_to(table, Jar(counts), 0)):
                    with self.assertRaises(LimitExceeded) as caught:
                        call()
                    self.assertEqual(caught.exception.limit, 200)


class ErrorsTest(unittest.TestCase):
    def test_wrong_size_comes_first(self):
        for size in (1, 3, 8):
            for count in (0, 1, BIG):
                for call in (lambda: last_beans(NOR, Jar([count] * size)),
                             lambda: way_to(NOR, Jar([count] * size), 0),
                             lambda: way_to(NOR, Jar([count] * size), "x")):
                    with self.assertRaises(WrongSize):
                        call()

    def test_then_the_empty_jar(self):
        for call in (lambda: last_beans(NOR, Jar([0, 0])), lambda: way_to(NOR, Jar([0, 0]), 0),
                     lambda: way_to(NOR, Jar([0, 0]), None)):
            with self.assertRaises(EmptyJar):
                call()

    def test_then_the_colour(self):
        for value in no_colours(2):
            for counts in ((1, 0), (2, 1), (BIG, BIG), (0, 200)):
                with self.assertRaises(InvalidColour) as caught:
                    way_to(NOR, Jar(counts), value)
                self.assertIs(caught.exception.value, value)

    def test_then_the_limit_then_no_way(self):
        table = Table([[0, 0], [0, 0]])
        with self.assertRaises(LimitExceeded):
            way_to(table, Jar([0, 200]), 1)
        with self.assertRaises(NoWay):
            way_to(table, Jar([0, 199]), 1)
        self.assertEqual(len(way_to(table, Jar([0, 199]), 0)), 198)


if __name__ == "__main__":
    unittest.main()
