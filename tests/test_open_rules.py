import unittest
from itertools import permutations, product

from beanjars.errors import InvalidDraw, InvalidRules, LimitExceeded, WrongSize
from beanjars.jars import Jar, after, last_of
from beanjars.open_rules import OpenRules, ends, stuck_ends, way_to
from beanjars.possible import last_beans
from beanjars.tables import Table
from samples import Agreeable, Touchy, all_counts, mixed_rows, no_colours, no_integers, no_sequences, rows_of

MIXED = [[1, None, "stop"], [None, "stop", 0], ["stop", 0, 2]]
BIG = 10 ** 59 + 3


def all_open_rows(size):
    """The rows of all open rules with so many colours."""
    places = [(a, b) for a in range(size) for b in range(a, size)]
    for entries in product(list(range(size)) + [None, "stop"], repeat=len(places)):
        at = dict(zip(places, entries))
        yield rows_of(size, lambda a, b: at[min(a, b), max(a, b)])


def some_open_rows():
    """Rows of open rules with one to eight colours, of many kinds."""
    rows = list(all_open_rows(1)) + list(all_open_rows(2)) + list(all_open_rows(3))[::97]
    for size in range(3, 9):
        for seed in range(6):
            plain, other = mixed_rows(size, seed), mixed_rows(size, seed + 50)
            rows.append([[(plain[a][b], None, "stop", plain[a][b])[other[a][b] % (2 + seed % 3)] for b in range(size)]
                         for a in range(size)])
    return rows + [rows_of(size, max) for size in range(1, 9)] + [[["stop"] * 8] * 8, [[None] * 8] * 8]


def plain_draws(rows, counts):
    """The allowed draws, by the words of the document."""
    size = len(counts)
    return [(a, b) for a in range(size) for b in range(size) if rows[a][b] != "stop" and (
        (a < b and counts[a] >= 1 and counts[b] >= 1) or (a == b and counts[a] >= 2))]


def plain_after(rows, counts, draw):
    """The counts after a draw, by the words of the document."""
    left = list(counts)
    for colour in draw:
        left[colour] -= 1
    if rows[draw[0]][draw[1]] is not None:
        left[rows[draw[0]][draw[1]]] += 1
    return tuple(left)


def plain_levels(rows, counts):
    """For each jar that can be reached the least number of draws, level by level."""
    levels, level, many = {tuple(counts): 0}, [tuple(counts)], 0
    while level:
        many += 1
        level = sorted({plain_after(rows, one, draw) for one in level for draw in plain_draws(rows, one)} - set(levels))
        levels.update((one, many) for one in level)
    return levels


def some_counts(size):
    """Counts of small jars with so many colours, the empty one included."""
    return [(0,) * size] + list(all_counts(size, {1: 9, 2: 6, 3: 4, 4: 3}.get(size, 2))) + [(1,) * size]


class OpenRulesTest(unittest.TestCase):
    def test_size_and_rows(self):
        for rows in some_open_rows():
            for given in (rows, tuple(rows), [tuple(row) for row in rows]):
                rules = OpenRules(given)
                self.assertEqual(rules.size, len(rows))
                self.assertEqual(rules.rows(), [list(row) for row in rows])
                self.assertIsInstance(rules.rows(), list)
                for row in rules.rows():
                    self.assertIsInstance(row, list)

    def test_equality(self):
        self.assertTrue(OpenRules(MIXED) == OpenRules(tuple(tuple(row) for row in MIXED)))
        self.assertFalse(OpenRules(MIXED) != OpenRules([list(row) for row in MIXED]))
        self.assertFalse(OpenRules(MIXED) == OpenRules([[1, None, "stop"], [None, "stop", 0], ["stop", 0, 1]]))
        for one, other in product(all_open_rows(2), repeat=2):
            self.assertIs(OpenRules(one) == OpenRules(other), one == other)
            self.assertIs(OpenRules(one) != OpenRules(other), one != other)
        self.assertFalse(OpenRules([[0]]) == OpenRules([[0, 0], [0, 0]]))

    def test_no_equality_with_other_kinds(self):
        rows = [[0, 1], [1, 0]]
        rules = OpenRules(rows)
        for other in [Table(rows), rows, tuple(rows), ((0, 1), (1, 0)), None, 2, "x", Jar([1, 1]), object(),
                      Agreeable(), Touchy()]:
            self.assertIs(rules == other, False)
            self.assertIs(rules != other, True)
        self.assertIs(Table(rows) == rules, False)

    def test_given_and_returned_lists_are_not_shared(self):
        rows = [[0, None], [None, "stop"]]
        rules = OpenRules(rows)
        rows[0][0] = 1
        rows.append([0, 0])
        rules.rows()[0][1] = 7
        rules.rows().pop()
        rules.draws(Jar([2, 2])).clear()
        self.assertEqual(rules.rows(), [[0, None], [None, "stop"]])
        self.assertEqual(rules.draws(Jar([2, 2])), [(0, 0), (0, 1)])

    def test_by_name(self):
        rules = OpenRules(rows=[[0, None], [None, "stop"]])
        self.assertEqual(rules.draws(jar=Jar([2, 2])), [(0, 0), (0, 1)])
        self.assertEqual(rules.after(jar=Jar([2, 2]), draw=(0, 1)), Jar([1, 1]))
        self.assertEqual(ends(rules=rules, jar=Jar([2, 2])), [(0, 0), (0, 1)])
        self.assertEqual(stuck_ends(rules=rules, jar=Jar([1, 3])), [(0, 2)])
        self.assertEqual(way_to(rules=rules, jar=Jar([2, 2]), goal=Jar([0, 1])), [(0, 0), (0, 1)])


class InvalidRulesTest(unittest.TestCase):
    def check(self, rows, place):
        with self.assertRaises(InvalidRules) as caught:
            OpenRules(rows)
        self.assertEqual(caught.exception.place, place)

    def test_rows_of_other_kinds_and_shapes(self):
        for rows in no_sequences() + [[], (), [[]], [[0, 0]], [[0], [0]], [[0, 0], [0]], [[0, 0], [0, 0, 0]],
                                      [[None, None], [None, None], [None, None]], [0], [None], ["stop"], "stop",
                                      ["stop", "stop", "stop", "stop"], rows_of(9, max), [[None] * 9] * 9]:
            self.check(rows, None)
        for row in no_sequences():
            self.check([row], None)
            self.check([[0, 9], row], None)

    def test_the_form_is_checked_before_the_entries(self):
        self.check([[9, 9], [9]], None)

    def test_entries_that_are_none(self):
        for size in range(1, 4):
            wrong = [value for value in no_colours(size) if value is not None] + ["Stop", "stop ", "", "STOP",
                                                                                  b"stop", ["stop"], ("stop",)]
            for value in wrong:
                for a, b in product(range(size), repeat=2):
                    for right in (0, None, "stop"):
                        rows = [[right] * size for _ in range(size)]
                        rows[a][b] = value
                        self.check(rows, (a, b))

    def test_entry_that_differs_from_the_mirrored_one(self):
        for size in range(2, 9):
            for a in range(1, size):
                for b in range(a):
                    for one, other in permutations((0, 1, None, "stop"), 2):
                        rows = [[0] * size for _ in range(size)]
                        rows[a][b], rows[b][a] = one, other
                        self.check(rows, (a, b))

    def test_first_place_row_by_row(self):
        self.check([[0, 2], ["x", 0]], (0, 1))
        self.check([[0, None], ["stop", 7]], (1, 0))
        self.check([[0, "stop", None], ["stop", 1, 7], [0, 0, 0]], (1, 2))
        self.check([[0, "stop", None], ["stop", 1, 1], [0, 0, 9]], (2, 0))
        self.check([[0, "stop", None], ["stop", 1, 1], [None, 1, 9]], (2, 2))

    def test_true_and_false_are_no_colours(self):
        self.check([[False]], (0, 0))
        self.check([[0, 1], [True, 0]], (1, 0))


class DrawsTest(unittest.TestCase):
    def test_allowed_draws_and_the_jar_after_each(self):
        for rows in some_open_rows():
            rules = OpenRules(rows)
            for counts in some_counts(len(rows)):
                jar = Jar(counts)
                allowed = rules.draws(jar)
                self.assertEqual(allowed, plain_draws(rows, counts))
                self.assertEqual(allowed, sorted(allowed))
                for draw in jar.draws():
                    if draw in allowed:
                        new = rules.after(jar, draw)
                        self.assertIsInstance(new, Jar)
                        self.assertEqual(tuple(new.counts()), plain_after(rows, counts, draw))
                    else:
                        with self.assertRaises(InvalidDraw):
                            rules.after(jar, draw)
                self.assertEqual(jar.counts(), list(counts))
            self.assertEqual(rules.rows(), [list(row) for row in rows])

    def test_no_bean_is_put_in(self):
        rules = OpenRules([[None, "stop"], ["stop", 1]])
        self.assertEqual(rules.after(Jar([2, 0]), (0, 0)).counts(), [0, 0])
        self.assertEqual(rules.after(Jar([3, 2]), (1, 1)).counts(), [3, 1])
        self.assertEqual(rules.draws(Jar([1, 1])), [])
        self.assertEqual(rules.draws(Jar([0, 0])), [])

    def test_great_counts(self):
        rules = OpenRules(MIXED)
        self.assertEqual(rules.draws(Jar([BIG, BIG, 1])), [(0, 0), (0, 1), (1, 2)])
        self.assertEqual(rules.after(Jar([BIG, BIG, 1]), (0, 0)).counts(), [BIG - 2, BIG + 1, 1])

    def test_draws_that_are_not_allowed(self):
        rules, jar = OpenRules(MIXED), Jar([2, 2, 1])
        wrong = no_sequences() + [[], [0, 0], (), (0,), (0, 0, 0), (1, 0), (0, 2), (1, 1), (2, 2), (0, 3), (-1, 0)]
        wrong += [(0, value) for value in no_integers()] + [(value, 0) for value in no_integers()]
        for value in wrong:
            with self.assertRaises(InvalidDraw) as caught:
                rules.after(jar, value)
            self.assertIs(caught.exception.value, value)
        self.assertEqual(jar.counts(), [2, 2, 1])

    def test_wrong_size_comes_first(self):
        rules = OpenRules(MIXED)
        for size in (1, 2, 4, 8):
            with self.assertRaises(WrongSize):
                rules.draws(Jar([2] * size))
            for draw in ((0, 0), None, "x"):
                with self.assertRaises(WrongSize):
                    rules.after(Jar([2] * size), draw)


class EndsTest(unittest.TestCase):
    def test_against_following_all_draws(self):
        for rows in some_open_rows():
            rules = OpenRules(rows)
            for counts in some_counts(len(rows)):
                levels = plain_levels(rows, counts)
                found = sorted(one for one in levels if not plain_draws(rows, one))
                self.assertEqual(ends(rules, Jar(counts)), found)
                self.assertEqual(stuck_ends(rules, Jar(counts)), [one for one in found if sum(one) > 1])

    def test_kinds_of_results(self):
        rules = OpenRules([[1, "stop"], ["stop", "stop"]])
        self.assertEqual(ends(rules, Jar([4, 0])), [(0, 2)])
        self.assertIsInstance(ends(rules, Jar([4, 0])), list)
        self.assertIsInstance(ends(rules, Jar([4, 0]))[0], tuple)
        self.assertEqual(ends(rules, Jar([0, 0])), [(0, 0)])
        self.assertEqual(stuck_ends(rules, Jar([0, 0])), [])
        self.assertEqual(ends(rules, Jar([0, 1])), [(0, 1)])
        self.assertEqual(stuck_ends(rules, Jar([0, 1])), [])
        self.assertEqual(stuck_ends(rules, Jar([1, 1])), [(1, 1)])
        self.assertEqual(ends(OpenRules([[None]]), Jar([8])), [(0,)])
        self.assertEqual(ends(OpenRules([[None]]), Jar([9])), [(1,)])

    def test_great_counts_that_are_stuck(self):
        rules = OpenRules([["stop", 0], [0, "stop"]])
        self.assertEqual(ends(rules, Jar([BIG, 3])), [(BIG, 0)])
        self.assertEqual(stuck_ends(rules, Jar([BIG, 0])), [(BIG, 0)])
        self.assertEqual(way_to(rules, Jar([BIG, 2]), Jar([BIG, 0])), [(0, 1), (0, 1)])

    def test_rules_without_none_and_stop_are_like_a_table(self):
        for seed in range(6):
            rows = mixed_rows(3, seed)
            for counts in all_counts(3, 5):
                found = [one.index(1) for one in ends(OpenRules(rows), Jar(counts))]
                self.assertEqual(sorted(found), last_beans(Table(rows), Jar(counts)))
                self.assertEqual(stuck_ends(OpenRules(rows), Jar(counts)), [])
                for colour in found:
                    way = way_to(OpenRules(rows), Jar(counts), Jar.of_beans(3, [colour]))
                    self.assertEqual(last_of(Table(rows), Jar(counts), way), colour)
                for draw in Jar(counts).draws():
                    self.assertEqual(OpenRules(rows).after(Jar(counts), draw), after(Table(rows), Jar(counts), draw))

    def test_returned_lists_can_be_changed(self):
        rules, jar = OpenRules(MIXED), Jar([2, 2, 2])
        first = (ends(rules, jar), stuck_ends(rules, jar), way_to(rules, jar, Jar([0, 3, 2])))
        kept = [list(one) for one in first]
        for one in first:
            one.clear()
        again = [ends(rules, jar), stuck_ends(rules, jar), way_to(rules, jar, Jar([0, 3, 2]))]
        self.assertEqual(again, kept)

    def test_renamed_colours(self):
        for rows in list(all_open_rows(3))[::211]:
            for names in permutations(range(3)):
                renamed = [[None] * 3 for _ in range(3)]
                for a, b in product(range(3), repeat=2):
                    entry = rows[a][b]
                    renamed[names[a]][names[b]] = entry if entry in (None, "stop") else names[entry]
                one, other = OpenRules(rows), OpenRules(renamed)
                for counts in ((2, 1, 1), (3, 0, 1), (1, 1, 1)):
                    jar = Jar(counts)
                    moved = sorted(tuple(Jar(end).renamed(names).counts()) for end in ends(one, jar))
                    self.assertEqual(ends(other, jar.renamed(names)), moved)
                    moved = sorted(tuple(sorted(names[c] for c in draw)) for draw in one.draws(jar))
                    self.assertEqual(other.draws(jar.renamed(names)), moved)
                    moved = sorted(tuple(Jar(end).renamed(names).counts()) for end in stuck_ends(one, jar))
                    self.assertEqual(stuck_ends(other, jar.renamed(names)), moved)


class WayToTest(unittest.TestCase):
    def test_shortest_ways(self):
        for rows in some_open_rows():
            rules = OpenRules(rows)
            for counts in some_counts(len(rows))[:-1][::3] + [(1,) * len(rows)]:
                levels = plain_levels(rows, counts)
                for goal in sorted(levels)[::1 + len(levels) // 8]:
                    way = way_to(rules, Jar(counts), Jar(goal))
                    self.assertIsInstance(way, list)
                    self.assertEqual(len(way), levels[goal])
                    here = counts
                    for draw in way:
                        self.assertIn(draw, plain_draws(rows, here))
                        here = plain_after(rows, here, draw)
                    self.assertEqual(here, goal)

    def test_the_jar_itself(self):
        for rows in some_open_rows():
            for counts in ((0,) * len(rows), (1,) * len(rows)):
                self.assertEqual(way_to(OpenRules(rows), Jar(counts), Jar(counts)), [])

    def test_jars_that_cannot_be_reached(self):
        for rows in list(all_open_rows(2)):
            levels = plain_levels(rows, (2, 2))
            for goal in product(range(5), repeat=2):
                way = way_to(OpenRules(rows), Jar([2, 2]), Jar(goal))
                self.assertIs(way is None, goal not in levels)

    def test_a_way_that_is_shorter_than_another(self):
        rules = OpenRules([[1, 0, 0], [0, None, None], [0, None, None]])
        self.assertEqual(way_to(rules, Jar([0, 2, 0]), Jar([0, 0, 0])), [(1, 1)])
        self.assertEqual(len(way_to(rules, Jar([2, 1, 0]), Jar([0, 0, 0]))), 2)
        self.assertIsNone(way_to(rules, Jar([2, 1, 0]), Jar([0, 0, BIG])))

    def test_wrong_size_for_the_jar_then_the_goal(self):
        rules = OpenRules(MIXED)
        for wrong in (1, 2, 4, 8):
            for call in (lambda: ends(rules, Jar([1] * wrong)), lambda: stuck_ends(rules, Jar([1] * wrong)),
                         lambda: way_to(rules, Jar([1] * wrong), Jar([1, 1, 1])),
                         lambda: way_to(rules, Jar([1, 1, 1]), Jar([1] * wrong)),
                         lambda: way_to(rules, Jar([BIG] * 3), Jar([1] * wrong)),
                         lambda: way_to(rules, Jar([BIG] * wrong), Jar([1] * wrong))):
                with self.assertRaises(WrongSize):
                    call()


class LimitTest(unittest.TestCase):
    def within(self, rows, counts, many):
        self.assertEqual(len(plain_levels(rows, counts)), many)
        rules, jar = OpenRules(rows), Jar(counts)
        found = ends(rules, jar)
        self.assertTrue(found)
        self.assertEqual(stuck_ends(rules, jar), [one for one in found if sum(one) > 1])
        for end in found:
            self.assertIsNotNone(way_to(rules, jar, Jar(end)))
        self.assertEqual(way_to(rules, jar, jar), [])

    def beyond(self, rows, counts):
        rules, jar = OpenRules(rows), Jar(counts)
        nothing = Jar([0] * jar.size)
        for call in (lambda: ends(rules, jar), lambda: stuck_ends(rules, jar), lambda: way_to(rules, jar, jar),
                     lambda: way_to(rules, jar, nothing), lambda: way_to(rules, jar, jar + jar)):
            with self.assertRaises(LimitExceeded) as caught:
                call()
            self.assertEqual(caught.exception.limit, 2000)

    def test_one_colour(self):
        self.within([[0]], (1999,), 1999)
        self.within([[0]], (2000,), 2000)
        self.beyond([[0]], (2001,))
        self.beyond([[0]], (2002,))
        self.within([[None]], (3998,), 2000)
        self.within([[None]], (3999,), 2000)
        self.beyond([[None]], (4000,))
        self.beyond([[None]], (4001,))

    def test_a_long_way(self):
        way = way_to(OpenRules([[0]]), Jar([2000]), Jar([1]))
        self.assertEqual(way, [(0, 0)] * 1999)
        self.assertEqual(way_to(OpenRules([[None]]), Jar([3999]), Jar([1])), [(0, 0)] * 1999)

    def test_several_colours(self):
        two = [[None, "stop"], ["stop", None]]
        self.within(two, (2 * 49, 2 * 39 + 1), 2000)
        self.within(two, (2 * 39, 2 * 49), 2000)
        self.beyond(two, (2 * 28, 2 * 68))
        many = [[None if a == b else "stop" for b in range(8)] for a in range(8)]
        self.within(many, (2, 2, 2, 2, 8, 8, 9, 1), 2000)
        self.within(many, (3, 3, 3, 3, 9, 9, 8, 1), 2000)
        self.beyond(many, (2, 2, 2, 2, 8, 8, 8, 2))
        self.beyond(many, (2,) * 3 + (2 * 22, 2 * 28) + (0, 1, 1))

    def test_great_counts(self):
        self.beyond([[0]], (BIG,))
        for rows in ([[None] * 8] * 8, rows_of(8, max), mixed_rows(8, 1)):
            self.beyond(rows, (BIG,) * 8)
            self.beyond(rows, (6,) * 8)


if __name__ == "__main__":
    unittest.main()
