"""Renaming the colours renames the results of small jars, huge jars of one colour, games and partly known tables."""

import unittest

from beanjars.chances import after_draws, chance_of, chance_of_way, chances, count_ways
from beanjars.completions import completions, least_renaming, open_choices, renaming_between, repairs, symmetries
from beanjars.games import best_chance, good_draws, is_plan, outcome, plan, winner
from beanjars.jars import Jar
from beanjars.possible import way_to
from beanjars.single import beans_of_many, count_leading, first_difference, is_power_table, nth_leading, period, \
    power_sets, power_table
from beanjars.tables import Table
from samples import all_rows, mixed_rows, passing_rows, rows_of
from test_completions import MOST_OPEN, some_partly_known
from test_renaming import some_names

BIG = 10 ** 30 + 7


def some_tables():
    """Rows of tables with one to eight colours."""
    return list(all_rows(1)) + list(all_rows(2)) + list(all_rows(3))[::31] + [
        mixed_rows(size, seed) for size in range(3, 9) for seed in range(3)]


def moved(colours, names):
    """The new numbers of colours, sorted."""
    return sorted(names[colour] for colour in colours)


def moved_draw(draw, names):
    """A draw with renamed colours."""
    return tuple(moved(draw, names))


def moved_counts(counts, names):
    """Counts with renamed colours."""
    return tuple(Jar(counts).renamed(names).counts())


def small_jar(size):
    """A small jar of so many colours."""
    return Jar({1: [9], 2: [4, 3], 3: [2, 3, 1], 4: [2, 1, 1, 1], 5: [1, 2, 0, 1, 1]}.get(
        size, [1, 2, 0, 1, 0, 0, 0, 0][:size]))


class RenamingTest(unittest.TestCase):
    def test_one_colour(self):
        for rows in some_tables():
            table, size = Table(rows), len(rows)
            for names in some_names(size):
                new = table.renamed(names)
                for colour in range(size):
                    sets = [moved(one, names) for one in power_sets(table, colour, 40)]
                    self.assertEqual(power_sets(new, names[colour], 40), sets)
                    start, length = period(table, colour, most=100)
                    self.assertEqual(period(new, names[colour], most=100), (start, length))

    def test_huge_jars_of_one_colour(self):
        for rows in some_tables()[::3]:
            table, size = Table(rows), len(rows)
            for names in some_names(size):
                new, colour = table.renamed(names), size // 2
                bean = names[colour]
                start, sets = power_table(table, colour, most=100)
                other = (start, [moved(one, names) for one in sets])
                self.assertEqual(power_table(new, bean, most=100), other)
                self.assertIs(is_power_table(new, bean, other), True)
                found = beans_of_many(table, colour, BIG, most=100)
                self.assertEqual(beans_of_many(new, bean, BIG, most=100), moved(found, names))
                for wanted in range(size):
                    self.assertEqual(count_leading(new, bean, names[wanted], BIG, most=100),
                                     count_leading(table, colour, wanted, BIG, most=100))
                    self.assertEqual(nth_leading(new, bean, names[wanted], BIG, most=100),
                                     nth_leading(table, colour, wanted, BIG, most=100))

    def test_first_difference(self):
        for size in range(1, 9):
            one, other = Table(mixed_rows(size, 1)), Table(mixed_rows(size, 4))
            for names in some_names(size):
                for colour in range(size):
                    expected = first_difference(one, other, colour, most=100)
                    found = first_difference(one.renamed(names), other.renamed(names), names[colour], most=100)
                    self.assertEqual(found, expected)

    def test_chances(self):
        for rows in some_tables():
            table, size = Table(rows), len(rows)
            jar = small_jar(size)
            for names in some_names(size):
                new, other = table.renamed(names), jar.renamed(names)
                found, ways = chances(new, other), count_ways(new, other)
                self.assertEqual([found[names[colour]] for colour in range(size)], chances(table, jar))
                self.assertEqual([ways[names[colour]] for colour in range(size)], count_ways(table, jar))
                wanted = list(range(0, size, 2))
                self.assertEqual(chance_of(new, other, [names[colour] for colour in wanted]),
                                 chance_of(table, jar, wanted))
                for many in range(jar.total):
                    expected = sorted((moved_counts(counts, names), chance)
                                      for counts, chance in after_draws(table, jar, many))
                    self.assertEqual(after_draws(new, other, many), expected)
                for colour in range(size):
                    if chances(table, jar)[colour] != (0, 1):
                        way = way_to(table, jar, colour)
                        self.assertEqual(chance_of_way(new, other, [moved_draw(draw, names) for draw in way]),
                                         chance_of_way(table, jar, way))

    def test_games(self):
        for rows in some_tables():
            table, size = Table(rows), len(rows)
            jar, wanted, order = small_jar(size), list(range(1, size, 2)), list(range(size))[::-1]
            for names in some_names(size):
                new, other = table.renamed(names), jar.renamed(names)
                goal = [names[colour] for colour in wanted]
                for turn in (1, 2):
                    self.assertEqual(winner(new, other, goal, turn=turn), winner(table, jar, wanted, turn=turn))
                    draws = sorted(moved_draw(draw, names) for draw in good_draws(table, jar, wanted, turn=turn))
                    self.assertEqual(good_draws(new, other, goal, turn=turn), draws)
                    self.assertEqual(outcome(new, other, [names[colour] for colour in order], turn=turn),
                                     names[outcome(table, jar, order, turn=turn)])
                    person, value = plan(table, jar, wanted, turn=turn)
                    renamed = {moved_counts(counts, names): moved_draw(draw, names) for counts, draw in value.items()}
                    self.assertIs(is_plan(new, other, goal, person, renamed, turn=turn), True)
                    for one in (1, 2):
                        self.assertEqual(best_chance(new, other, goal, turn=turn, person=one),
                                         best_chance(table, jar, wanted, turn=turn, person=one))

    def test_completions(self):
        for rows in some_partly_known()[::5]:
            size = len(rows)
            for names in some_names(size):
                at = {(names[a], names[b]): rows[a][b] for a in range(size) for b in range(size)}
                new = rows_of(size, lambda a, b: None if at[a, b] is None else names[at[a, b]])
                expected = sorted(table.renamed(names).rows() for table in completions(rows))
                self.assertEqual([table.rows() for table in completions(new)], expected)
                choices = {moved_draw(pair, names): moved(colours, names)
                           for pair, colours in open_choices(rows).items()}
                self.assertEqual(open_choices(new), choices)
                self.assertLessEqual(len(choices), MOST_OPEN[size])

    def test_repairs(self):
        for rows in some_tables():
            table, size = Table(rows), len(rows)
            most = 3 if size < 4 else 2 if size == 4 else 1
            for names in some_names(size):
                found, other = repairs(table, most), repairs(table.renamed(names), most)
                self.assertIs(found is None, other is None)
                if found is not None:
                    self.assertEqual(other[0], found[0])
                    expected = sorted(one.renamed(names).rows() for one in found[1])
                    self.assertEqual([one.rows() for one in other[1]], expected)

    def test_renamings_of_tables(self):
        for rows in some_tables() + passing_rows()[::9]:
            table, size = Table(rows), len(rows)
            if size > 5:
                continue
            for names in some_names(size):
                new = table.renamed(names)
                self.assertEqual(least_renaming(new)[0], least_renaming(table)[0])
                self.assertEqual(table.renamed(renaming_between(table, new)), new)
                back = [list(names).index(colour) for colour in range(size)]
                expected = sorted([names[one[back[colour]]] for colour in range(size)] for one in symmetries(table))
                self.assertEqual(symmetries(new), expected)


if __name__ == "__main__":
    unittest.main()
