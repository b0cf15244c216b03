import unittest
from itertools import combinations, permutations

from beanjars.completions import completions
from beanjars.errors import InvalidNumber, InvalidObservation, InvalidTable, LimitExceeded
from beanjars.jars import Jar
from beanjars.observations import conflict, fitting, next_jar
from beanjars.tables import Table
from samples import Agreeable, Touchy, all_counts, all_rows, counts_with_total, is_passing, large_rows, mixed_rows, \
    no_colours, no_integers, no_numbers, no_sequences, rows_of, searched_last_beans
from test_completions import MOST_OPEN, at_the_limit, filled, opened, pairs, some_places, wrong_partly_known

PART = [[0, None], [None, 1]]
KNOWN = {}


def beans_of(rows, counts):
    """The possible last beans, by making all draws."""
    return searched_last_beans(rows, tuple(counts), KNOWN.setdefault(str(rows), {}))


def candidates(rows, passing):
    """The considered tables, as rows, ascending."""
    return [full for full in filled(rows) if not passing or is_passing(full)]


def fits(rows, observation):
    """Whether a table fits an observation, by making all draws."""
    counts, colour = observation
    return colour in beans_of(rows, counts)


def some_observations(rows, many, seed):
    """Some observations, most of which one completion fits, always the same ones for a seed."""
    size = len(rows)
    hidden = filled(rows)[(seed * 37) % len(filled(rows))]
    jars = all_counts(size, 6 if size < 4 else 4 if size == 4 else 3)
    found = []
    for at in range(many):
        counts = jars[(seed * 31 + at * 17 + at * at) % len(jars)]
        beans = sorted(beans_of(hidden, counts))
        colour = beans[at % len(beans)] if (at + seed) % 5 else (at + seed) % size
        found.append((counts if at % 2 else list(counts), colour))
    return found


def some_cases():
    """Rows of partly known tables with observations."""
    found = []
    for rows in list(all_rows(1)) + list(all_rows(2))[::3]:
        for places in [pairs(len(rows)), pairs(len(rows))[1:], []]:
            found += [(opened(rows, places), many, seed) for many in (0, 1, 2, 4, 20) for seed in range(3)]
    for rows in large_rows()[18:] + [mixed_rows(size, 1) for size in range(3, 9)]:
        size = len(rows)
        places = some_places(size, min(2, MOST_OPEN[size]), size)
        found += [(opened(rows, places), many, many + size) for many in (1, 2, 5)]
    return [(rows, some_observations(rows, many, seed)) for rows, many, seed in found]


def passing_part():
    """Rows of a partly known table with 729 completions, of which a few pass."""
    return [[None] * 3 for _ in range(3)]


class FittingTest(unittest.TestCase):
    def check(self, rows, observations, passing):
        expected = [full for full in candidates(rows, passing) if all(fits(full, one) for one in observations)]
        for given, seen in ((rows, observations), (tuple(tuple(row) for row in rows), tuple(observations))):
            found = fitting(given, seen, passing=passing)
            self.assertIsInstance(found, list)
            self.assertEqual([table.rows() for table in found], expected)
        if not passing:
            self.assertEqual([table.rows() for table in fitting(rows, observations)], expected)

    def test_against_making_all_draws(self):
        for rows, observations in some_cases():
            for passing in (False, True):
                self.check(rows, observations, passing)

    def test_three_colours_all_open(self):
        for seed in range(3):
            observations = some_observations(passing_part(), 3 + seed, seed)
            for passing in (False, True):
                self.check(passing_part(), observations, passing)

    def test_at_the_limit(self):
        for rows, others in at_the_limit()[::2]:
            size = len(rows)
            total = {1: 6, 2: 6, 3: 6, 4: 5}.get(size, 3)
            jars = counts_with_total(size, total)
            observations = [(jars[(at * 7) % len(jars)], at % size) for at in range(3)]
            for passing in (False, True):
                self.check(rows, observations, passing)

    def test_six_beans_of_many_colours(self):
        for size in range(4, 9):
            rows = opened(mixed_rows(size, 3), [(0, 1), (2, 3)])
            for counts in ((1,) * min(size, 6) + (0,) * (size - 6), (3, 3) + (0,) * (size - 2)):
                counts = counts[:-1] + (counts[-1] + 6 - sum(counts),)
                self.assertEqual(sum(counts), 6)
                for colour in (0, size - 1):
                    self.check(rows, [(counts, colour)], False)

    def test_no_observations(self):
        for rows, others in at_the_limit()[::5]:
            for empty in ([], ()):
                self.assertEqual([table.rows() for table in fitting(rows, empty)], filled(rows))
                self.assertEqual(fitting(rows, empty, passing=True), completions(rows))

    def test_one_bean(self):
        self.assertEqual(fitting(PART, [((1, 0), 1)]), [])
        self.assertEqual(len(fitting(PART, [((1, 0), 0), ((0, 1), 1)])), 2)

    def test_arguments_are_not_modified_nor_kept(self):
        rows, counts = [[0, None], [None, 1]], [1, 1]
        observations = [(counts, 1)]
        found = fitting(rows, observations)
        conflict(rows, observations)
        next_jar(rows, observations, 3)
        self.assertEqual((rows, observations), ([[0, None], [None, 1]], [([1, 1], 1)]))
        counts[0] = 5
        rows[0][0] = 1
        self.assertEqual([table.rows() for table in found], [[[0, 1], [1, 1]]])
        found.clear()
        self.assertEqual(len(fitting([[0, None], [None, 1]], [([1, 1], 1)])), 1)


class ConflictTest(unittest.TestCase):
    def check(self, rows, observations, passing):
        found = conflict(rows, observations, passing=passing)
        many = candidates(rows, passing)

        def some_fit(indexes):
            return any(all(fits(full, observations[index]) for index in indexes) for full in many)

        if some_fit(range(len(observations))):
            self.assertIsNone(found)
        else:
            self.assertIsInstance(found, list)
            self.assertEqual(found, sorted(set(found)))
            self.assertTrue(all(0 <= index < len(observations) for index in found))
            self.assertFalse(some_fit(found))
            for left_out in found:
                self.assertTrue(some_fit([index for index in found if index != left_out]))
        if not passing:
            self.assertIs(conflict(rows, observations) is None, found is None)
        return found

    def test_against_making_all_draws(self):
        sizes = set()
        for rows, observations in some_cases():
            for passing in (False, True):
                found = self.check(rows, observations, passing)
                sizes.add(None if found is None else len(found))
        self.assertLessEqual({None, 0, 1, 2}, sizes)

    def test_three_colours_all_open(self):
        # Each table has one bean for each pair, so these conflict two by two.
        observations = [((2, 0, 0), 1), ((0, 2, 0), 1), ((2, 0, 0), 2), ((0, 2, 0), 0)]
        found = self.check(passing_part(), observations, False)
        self.assertEqual(len(found), 2)
        self.assertIn(found, ([0, 2], [1, 3]))
        for seed in range(4):
            for passing in (False, True):
                self.check(passing_part(), some_observations(passing_part(), 6, seed), passing)

    def test_conflicts_of_more_than_two(self):
        # The sum of three colours is not the one that the pairs lead to.
        observations = [((1, 1, 0), 1), ((0, 1, 1), 2), ((1, 0, 1), 2), ((1, 1, 1), 0)]
        found = self.check(passing_part(), observations, False)
        self.assertEqual(found, [0, 1, 2, 3])
        found = self.check(passing_part(), observations[::-1] + [((2, 0, 0), 0)] * 16, False)
        self.assertEqual(found, [0, 1, 2, 3])

    def test_no_considered_table(self):
        rows = [[1, 0, 0], [0, 0, 0], [0, 0, None]]
        self.assertEqual(completions(rows), [])
        for observations in ([], [((1, 0, 0), 0)], [((1, 0, 0), 1), ((2, 0, 0), 0)]):
            self.assertEqual(conflict(rows, observations, passing=True), [])
        self.assertIsNone(conflict(rows, []))
        self.assertEqual(fitting(rows, [], passing=True), [])
        self.assertIsNone(next_jar(rows, [], 2, passing=True))

    def test_one_observation(self):
        self.assertEqual(conflict(PART, [((1, 1), 0), ((1, 0), 1)]), [1])
        self.assertEqual(conflict(PART, [((1, 0), 1), ((1, 0), 1), ((0, 1), 0)]), [2])

    def test_returned_lists_can_be_changed(self):
        conflict(PART, [((1, 0), 1)]).clear()
        self.assertEqual(conflict(PART, [((1, 0), 1)]), [0])


def plain_next_jar(rows, observations, most, passing):
    """The jar to try next, by trying all of them."""
    many = [full for full in candidates(rows, passing) if all(fits(full, one) for one in observations)]
    if len(many) < 2:
        return None
    found = []
    for counts in all_counts(len(rows), most):
        if sum(counts) > 1:
            greatest = max(len([1 for full in many if fits(full, (counts, colour))]) for colour in range(len(rows)))
            found.append((greatest, sum(counts), list(counts)))
    number, total, counts = min(found)
    return (counts, number)


class NextJarTest(unittest.TestCase):
    def check(self, rows, observations, most, passing):
        expected = plain_next_jar(rows, observations, most, passing)
        found = next_jar(rows, observations, most, passing=passing)
        if expected is None:
            self.assertIsNone(found)
        else:
            self.assertIsInstance(found, tuple)
            self.assertIsInstance(found[0], Jar)
            self.assertEqual((found[0].counts(), found[1]), expected)
        if not passing:
            other = next_jar(rows, observations, most)
            self.assertEqual(other and (other[0].counts(), other[1]), expected)
        return expected

    def test_against_trying_all_jars(self):
        for at, (rows, observations) in enumerate(some_cases()[::3]):
            for most in (2, 3, 4) if len(rows) < 5 else (2, 3) if len(rows) < 7 else (2,):
                for passing in (False, True):
                    self.check(rows, observations[:at % 4], most, passing)

    def test_larger_jars_tell_more_now_and_then(self):
        totals = set()
        for size in (2, 3):
            for rows in list(all_rows(size))[::43 if size == 3 else 1]:
                for number in range(1, 4):
                    for places in list(combinations(pairs(size), number))[:6]:
                        expected = self.check(opened(rows, places), [], 4, number == 3)
                        if expected is not None:
                            totals.add(sum(expected[0]))
        for rows, observations, passing in (
                ([[2, 0, None], [0, None, 2], [None, 2, None]], [((0, 1, 5), 1), ((1, 4, 0), 1)], False),
                ([[2, 0, None], [0, None, 2], [None, 2, None]], [((1, 0, 5), 1), ((0, 2, 4), 1)], False),
                ([[0, 0, None, None], [0, 1, None, 3], [None, None, None, 3], [None, 3, 3, 0]],
                 [((2, 0, 2, 0), 0)], True)):
            for most in (2, 3):
                self.check(rows, observations, most, passing)
            totals.add(sum(self.check(rows, observations, 4, passing)[0]))
        self.assertEqual(totals, {2, 3, 4})

    def test_asking_on_until_one_table_is_left(self):
        for rows, others in at_the_limit()[::3]:
            many = filled(rows)
            for hidden in many[len(many) // 3::max(1, len(many) // 2)]:
                self.ask_on(rows, hidden, 3, False)
            self.ask_on(rows, many[-1], 4, False)
        for at, hidden in enumerate(completions(passing_part())):
            self.ask_on(passing_part(), hidden.rows(), 2 + at % 3, True)

    def ask_on(self, rows, hidden, most, passing):
        observations = []
        left = fitting(rows, observations, passing=passing)
        while (found := next_jar(rows, observations, most, passing=passing)) is not None:
            jar, number = found
            observations.append((jar.counts(), max(beans_of(hidden, jar.counts()))))
            before, left = left, fitting(rows, observations, passing=passing)
            self.assertLess(len(left), len(before))
            self.assertLessEqual(len(left), number)
        self.assertEqual([table.rows() for table in left], [hidden])

    def test_fewer_than_two_tables(self):
        self.assertIsNone(next_jar(PART, [((1, 1), 1)], 2))
        self.assertIsNone(next_jar([[0]], [], 4))
        self.assertIsNone(next_jar([[None]], [], 4))
        self.assertIsNone(next_jar(PART, [((1, 0), 1)], 2))
        self.assertEqual(next_jar(PART, [], 2)[1], 1)

    def test_at_the_limit_with_four_beans(self):
        for size, many in MOST_OPEN.items():
            rows = opened(rows_of(size, max), pairs(size)[:many])
            found = next_jar(rows, [], 4)
            if size == 1:
                self.assertIsNone(found)
            else:
                jar, number = found
                self.assertTrue(2 <= jar.total <= 4)
                numbers = [len(fitting(rows, [(jar.counts(), colour)])) for colour in range(size)]
                self.assertEqual(number, max(numbers))


def no_observations(size):
    """Values that are no observations for so many colours."""
    right = [1] + [0] * (size - 1)
    wrong = no_sequences() + [[], (), (right,), (right, 0, 0), [right, 0], (0, right), ((), 0), ([], 0),
                              (right + [0], 0), (right[1:], 0), ([0] * size, 0), ((0,) * size, 0), (right[0], 0),
                              ([7] + right[1:], 0), (right[:-1] + [7], 0), (right[:-1] + [-1], 0),
                              (dict.fromkeys(right), 0), (set(right), 0), ([10 ** 30] + right[1:], 0),
                              ([6] + right[1:-1] + [1], 0) if size > 1 else ([7], 0)]
    wrong += [(right, value) for value in no_colours(size)]
    wrong += [([value] + right[1:], 0) for value in no_integers()] + [(value, 0) for value in no_sequences()]
    if size > 1:
        wrong += [([2, -1] + right[2:], 0), ((-1, 2) + (0,) * (size - 2), 0)]
    return wrong


class ErrorsTest(unittest.TestCase):
    def calls(self, rows, observations, most=2):
        return [lambda: fitting(rows, observations), lambda: fitting(rows, observations, passing=True),
                lambda: conflict(rows, observations), lambda: conflict(rows, observations, passing=True),
                lambda: next_jar(rows, observations, most), lambda: next_jar(rows, observations, most, passing=True)]

    def test_wrong_rows_come_first(self):
        for rows, place in wrong_partly_known():
            for observations, most in (([], 2), (None, 2), ([None], 9)):
                for call in self.calls(rows, observations, most):
                    with self.assertRaises(InvalidTable) as caught:
                        call()
                    self.assertEqual(caught.exception.place, place)

    def test_then_observations_of_a_wrong_form(self):
        wrong = no_sequences() + [[((1, 0), 0)] * 21, (((1, 0), 0),) * 21, [None] * 21, [Touchy()] * 30]
        for observations in wrong:
            for rows in (PART, [[None] * 8] * 8):
                for most in (2, 1):
                    for call in self.calls(rows, observations, most):
                        with self.assertRaises(InvalidObservation) as caught:
                            call()
                        self.assertIsNone(caught.exception.index)
        self.assertEqual(len(fitting(PART, [((1, 0), 0)] * 20)), 2)

    def test_then_the_first_wrong_observation(self):
        for size in (1, 2, 3, 8):
            right = ((6,) + (0,) * (size - 1), 0)
            for rows in ([[None] + [0] * (size - 1)] + [[0] * size] * (size - 1), [[None] * size] * size):
                for value in no_observations(size):
                    for index, observations in ((0, [value]), (1, (right, value)), (2, [right, right, value, None]),
                                                (19, [right] * 19 + [value])):
                        self.check_index(rows, observations, index)

    def check_index(self, rows, observations, index):
        for call in self.calls(rows, observations, None)[::2]:
            with self.assertRaises(InvalidObservation) as caught:
                call()
            self.assertEqual(caught.exception.index, index)

    def test_one_to_six_beans(self):
        for size in range(1, 9):
            rows = rows_of(size, max)
            for counts in [(total,) + (0,) * (size - 1) for total in range(1, 7)]:
                self.assertEqual([table.rows() for table in fitting(rows, [(counts, 0)])], [rows])
                self.assertEqual(len(fitting(rows, [(list(counts[::-1]), size - 1)])), 1)

    def test_then_the_limit(self):
        for rows, others in at_the_limit():
            size = len(rows)
            for place in others[:1]:
                for observations in ([], [((1,) + (0,) * (size - 1), 0)] * 20):
                    for most in (2, 1, "x"):
                        for call in self.calls(opened(rows, [place]), observations, most):
                            with self.assertRaises(LimitExceeded) as caught:
                                call()
                            self.assertEqual(caught.exception.limit, 1024)

    def test_then_most(self):
        for most in no_numbers(2, 4) + [Agreeable(), Touchy()]:
            for rows, observations in ((PART, []), (PART, [((1, 0), 1)]), (PART, [((1, 1), 1)]), ([[0]], []),
                                       ([[0, 1], [1, 1]], [])):
                for call in self.calls(rows, observations, most)[4:]:
                    with self.assertRaises(InvalidNumber) as caught:
                        call()
                    self.assertIs(caught.exception.value, most)

    def test_by_name(self):
        self.assertEqual(len(fitting(passing=True, observations=[], rows=PART)), 2)
        self.assertEqual(conflict(passing=False, observations=[((1, 0), 1)], rows=PART), [0])
        self.assertEqual(next_jar(passing=True, most=2, observations=[], rows=PART)[0], Jar([1, 1]))


class RenamingTest(unittest.TestCase):
    def test_renamed_colours(self):
        for rows, observations in some_cases()[::2]:
            size = len(rows)
            for names in list(permutations(range(size)))[:7] if size < 5 else [tuple(range(1, size)) + (0,)]:
                at = {(names[a], names[b]): rows[a][b] for a in range(size) for b in range(size)}
                new = rows_of(size, lambda a, b: None if at[a, b] is None else names[at[a, b]])
                other = [(Jar(counts).renamed(names).counts(), names[colour]) for counts, colour in observations]
                for passing in (False, True):
                    expected = sorted(table.renamed(names).rows()
                                      for table in fitting(rows, observations, passing=passing))
                    self.assertEqual([table.rows() for table in fitting(new, other, passing=passing)], expected)
                    self.assertIs(conflict(new, other, passing=passing) is None,
                                  conflict(rows, observations, passing=passing) is None)
                    one, two = (next_jar(*given, 3, passing=passing) for given in ((rows, observations), (new, other)))
                    self.assertEqual(one and one[1], two and two[1])

    def test_full_tables(self):
        for rows in list(all_rows(3))[::29]:
            self.assertEqual(fitting(rows, []), [Table(rows)])


if __name__ == "__main__":
    unittest.main()
