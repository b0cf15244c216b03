import copy
import unittest
from itertools import permutations, product

from beanjars.errors import InvalidColour
from beanjars.groups import groups, is_reason, reason
from beanjars.tables import Table
from samples import DEEP, LINKED, Agreeable, Touchy, all_rows, joined_groups, lists_within, no_colours, no_sequences, \
    some_rows

NOR_ROWS = [[1, 0], [0, 0]]
NOR = Table(NOR_ROWS)
UP = (0, 1, ("test", 0, 0, 1))
DOWN = (1, 0, ("test", 0, 0, 1))


def plain_colour(value, size):
    return isinstance(value, int) and value is not True and value is not False and 0 <= value < size


def plain_step(rows, value):
    """Whether a value is a step, by the words of the document."""
    if not isinstance(value, tuple) or len(value) != 3 or not isinstance(value[2], tuple):
        return False
    start, end, why = value
    if not plain_colour(start, len(rows)) or not plain_colour(end, len(rows)) or len(why) not in (4, 5):
        return False
    if not all(plain_colour(item, len(rows)) for item in why[1:4]) or not isinstance(why[0], str):
        return False
    if len(why) == 4 and why[0] == "test":
        a, b, c = why[1:]
        return (start, end) in ((rows[rows[a][b]][c], rows[a][rows[b][c]]), (rows[a][rows[b][c]], rows[rows[a][b]][c]))
    if len(why) == 5 and why[0] == "put":
        c, u, v, steps = why[1:]
        return start == rows[u][c] and end == rows[v][c] and plain_reason(rows, u, v, steps)
    return False


def plain_reason(rows, start, end, value):
    """Whether a value is a reason, by the words of the document."""
    if not isinstance(value, list) or not all(plain_step(rows, step) for step in value):
        return False
    path = [start] + [step[1] for step in value]
    return path[-1] == end and all(step[0] == here for step, here in zip(value, path))


def renamed_steps(steps, names):
    """The steps at renamed colours."""
    result = []
    for start, end, why in steps:
        colours = tuple(names[colour] for colour in why[1:4])
        inner = (renamed_steps(why[4], names),) if len(why) == 5 else ()
        result.append((names[start], names[end], (why[0],) + colours + inner))
    return result


def tuples_changed(value, choices):
    """Each tuple that has one item of a tuple exchanged, left out, repeated or added."""
    for at, item in enumerate(value):
        changed = list(values_changed(item, choices)) + list(choices)
        for new in changed:
            yield value[:at] + (new,) + value[at + 1:]
        yield value[:at] + value[at + 1:]
        yield value[:at] + (item,) + value[at:]
    for new in choices:
        yield value + (new,)
    yield value[::-1]
    yield list(value)


def lists_changed(value, choices):
    """Each list that has one item of a list changed, left out, repeated, turned or added."""
    for at, item in enumerate(value):
        for new in values_changed(item, choices):
            yield value[:at] + [new] + value[at + 1:]
        yield value[:at] + value[at + 1:]
        yield value[:at] + [item] + value[at:]
        if isinstance(item, tuple) and len(item) == 3:
            yield value[:at] + [(item[1], item[0], item[2])] + value[at + 1:]
    for new in choices:
        yield value + [new]
        yield [new] + value
    yield value[::-1]
    yield tuple(value)


def values_changed(value, choices):
    """Values that differ at one place from a value made of lists and tuples."""
    if isinstance(value, tuple):
        yield from tuples_changed(value, choices)
    if isinstance(value, list):
        yield from lists_changed(value, choices)


def nested(depth):
    """A reason from 0 to 1, or from 1 to 0, by the table of NOR, that is nested so deep."""
    start, end, steps = 0, 1, [UP]
    for _ in range(depth - 1):
        steps = [(1 - start, 1 - end, ("put", 0, start, end, steps))]
        start, end = 1 - start, 1 - end
    return start, end, steps


class ReasonTest(unittest.TestCase):
    def test_one_for_each_two_colours_of_a_group(self):
        for rows in some_rows():
            table, parts = Table(rows), joined_groups(rows)
            for part in parts:
                for start in part:
                    for end in range(len(rows)):
                        steps = reason(table, start, end)
                        if end not in part:
                            self.assertIsNone(steps)
                            continue
                        self.assertIsInstance(steps, list)
                        self.assertTrue(plain_reason(rows, start, end, steps), (rows, start, end, steps))
                        self.assertIs(is_reason(table, start, end, steps), True)

    def test_each_step_holds_alone(self):
        for rows in some_rows():
            table = Table(rows)
            for start, end in product(range(len(rows)), repeat=2):
                here = start
                for step in reason(table, start, end) or []:
                    self.assertEqual(step[0], here)
                    self.assertTrue(plain_step(rows, step))
                    self.assertIs(is_reason(table, step[0], step[1], [step]), True)
                    here = step[1]

    def test_no_step_from_a_colour_to_itself(self):
        for rows in some_rows():
            for colour in range(len(rows)):
                self.assertEqual(reason(Table(rows), colour, colour), [])

    def test_both_kinds_of_steps_are_needed(self):
        for rows in LINKED + (DEEP,):
            steps = [step for start, end in product(range(len(rows)), repeat=2)
                     for step in reason(Table(rows), start, end) or []]
            self.assertEqual({step[2][0] for step in steps}, {"test", "put"})

    def test_a_short_one(self):
        self.assertEqual(len(reason(NOR, 0, 1)), 1)
        self.assertIsNone(reason(Table([[0, 1], [1, 0]]), 0, 1))

    def test_by_name(self):
        steps = reason(table=NOR, start=1, end=0)
        self.assertIs(is_reason(table=NOR, start=1, end=0, value=steps), True)
        self.assertIs(is_reason(table=NOR, start=0, end=1, value=steps), False)

    def test_all_lists_are_new(self):
        for rows in (DEEP, NOR_ROWS):
            table = Table(rows)
            for start, end in product(range(len(rows)), repeat=2):
                steps = reason(table, start, end)
                kept = copy.deepcopy(steps)
                lists = lists_within(steps)
                self.assertEqual(len(lists), len({id(found) for found in lists}))
                again = {id(found) for found in lists_within(reason(table, start, end))}
                self.assertFalse(again & {id(found) for found in lists})
                for found in lists:
                    found.clear()
                self.assertEqual(reason(table, start, end), kept)

    def test_colours_that_are_none(self):
        for rows in (NOR_ROWS, [[0]], DEEP):
            table = Table(rows)
            for value in no_colours(len(rows)):
                for call in (lambda x, y: reason(table, x, y), lambda x, y: is_reason(table, x, y, None),
                             lambda x, y: is_reason(table, x, y, [])):
                    with self.assertRaises(InvalidColour) as caught:
                        call(value, "x")
                    self.assertIs(caught.exception.value, value)
                    with self.assertRaises(InvalidColour) as caught:
                        call(0, value)
                    self.assertIs(caught.exception.value, value)


class IsReasonTest(unittest.TestCase):
    def check(self, rows, start, end, value):
        result = is_reason(Table(rows), start, end, value)
        self.assertIs(result, plain_reason(rows, start, end, value), (rows, start, end, value))
        if result:
            self.assertTrue(any(start in part and end in part for part in groups(Table(rows))))
        return result

    def test_all_test_steps(self):
        for rows in list(all_rows(2)) + list(all_rows(3))[::37]:
            colours = range(len(rows))
            for start, end, a, b, c in product(colours, repeat=5):
                self.check(rows, start, end, [(start, end, ("test", a, b, c))])

    def test_all_put_steps(self):
        for rows in list(all_rows(2)) + list(all_rows(3))[::61]:
            table, colours = Table(rows), range(len(rows))
            for start, end, c, u, v in product(colours, repeat=5):
                for steps in ([], reason(table, u, v), reason(table, v, u)):
                    self.check(rows, start, end, [(start, end, ("put", c, u, v, steps))])

    def test_chains_of_two_steps(self):
        steps = [(x, y, ("test", a, b, c)) for x, y, a, b, c in product(range(2), repeat=5)]
        accepted = 0
        for rows in list(all_rows(2))[::3]:
            for start, end, one, other in product(range(2), range(2), steps, steps):
                accepted += self.check(rows, start, end, [one, other])
        self.assertGreater(accepted, 100)

    def test_changed_reasons(self):
        choices = [0, 1, 2, -1, True, None, "test", "put", "x", (), [], UP, [UP]]
        seen = {True: 0, False: 0}
        for rows in (NOR_ROWS, [[1, 0, 0], [0, 0, 0], [0, 0, 2]], [[1, 2, 0], [2, 0, 1], [0, 1, 1]]):
            table = Table(rows)
            for start, end in product(range(len(rows)), repeat=2):
                steps = reason(table, start, end)
                for value in ([] if steps is None else values_changed(steps, choices)):
                    seen[self.check(rows, start, end, value)] += 1
        self.assertGreater(min(seen.values()), 10)

    def test_changed_reasons_with_inner_ones(self):
        choices = [0, 1, 2, False, "put", [], UP, DOWN]
        start, end, steps = nested(3)
        seen = {True: 0, False: 0}
        for value in values_changed(steps, choices):
            seen[self.check(NOR_ROWS, start, end, value)] += 1
        for a in range(8):
            for value in values_changed(reason(Table(DEEP), 3, a), choices):
                seen[self.check(DEEP, 3, a, value)] += 1
        self.assertGreater(min(seen.values()), 10)

    def test_two_changes(self):
        choices = [0, 1, "put"]
        for once in values_changed([(1, 0, ("put", 0, 0, 1, [UP]))], choices):
            for twice in values_changed(once, choices):
                self.check(NOR_ROWS, 1, 0, twice)

    def test_more_steps_than_needed(self):
        self.assertIs(is_reason(NOR, 0, 0, [UP, DOWN]), True)
        self.assertIs(is_reason(NOR, 0, 1, [UP, DOWN, UP]), True)
        self.assertIs(is_reason(NOR, 0, 1, [UP, UP]), False)
        self.assertIs(is_reason(NOR, 0, 1, [UP, (1, 1, ("test", 1, 1, 1)), (1, 1, ("put", 0, 0, 0, []))]), False)
        self.assertIs(is_reason(NOR, 0, 1, [UP, (1, 1, ("put", 0, 0, 0, []))]), True)
        self.assertIs(is_reason(NOR, 0, 1, [(0, 0, ("test", 0, 1, 0)), UP]), False)
        self.assertIs(is_reason(NOR, 0, 1, [(1, 1, ("test", 0, 1, 0)), UP]), False)

    def test_values_of_any_kind(self):
        for value in no_sequences() + [(), (UP,), {}, "test"]:
            self.assertIs(is_reason(NOR, 0, 1, value), False)
            self.assertIs(is_reason(NOR, 0, 0, value), False)
        for value in no_sequences() + [[], (), [0, 1, ("test", 0, 0, 1)], "abc"]:
            self.assertIs(is_reason(NOR, 0, 1, [value]), False)
            self.assertIs(is_reason(NOR, 0, 1, [UP, value]), False)
            self.assertIs(is_reason(NOR, 0, 1, [(0, 1, value)]), False)
            self.assertIs(is_reason(NOR, 0, 1, [(0, 1, (value, 0, 0, 1))]), False)
            self.assertIs(is_reason(NOR, 1, 0, [(1, 0, (value, 0, 0, 1, [UP]))]), False)
            if not isinstance(value, list):
                self.assertIs(is_reason(NOR, 1, 1, [(1, 1, ("put", 0, 0, 0, value))]), False)
        self.assertIs(is_reason(NOR, 1, 1, [(1, 1, ("put", 0, 0, 0, []))]), True)

    def test_colours_of_any_kind(self):
        right = (0, 1, ("test", 0, 0, 1))
        put = (1, 0, ("put", 0, 0, 1, [UP]))
        self.assertIs(is_reason(NOR, 0, 1, [right]) and is_reason(NOR, 1, 0, [put]), True)
        for value in no_colours(2):
            for at in range(2):
                wrong = right[:at] + (value,) + right[at + 1:]
                self.assertIs(is_reason(NOR, 0, 1, [wrong]), False)
                wrong = put[:at] + (value,) + put[at + 1:]
                self.assertIs(is_reason(NOR, 1, 0, [wrong]), False)
            for at in range(1, 4):
                why = right[2][:at] + (value,) + right[2][at + 1:]
                self.assertIs(is_reason(NOR, 0, 1, [right[:2] + (why,)]), False)
                why = put[2][:at] + (value,) + put[2][at + 1:]
                self.assertIs(is_reason(NOR, 1, 0, [put[:2] + (why,)]), False)

    def test_touchy_values_at_each_place(self):
        start, end, steps = nested(3)
        for choice in (Touchy(), Agreeable()):
            for value in values_changed(steps, [choice]):
                if lists_within(value) and any(choice is item for item in leaves(value)):
                    self.assertIs(is_reason(NOR, start, end, value), False)

    def test_a_reason_may_have_2000_steps(self):
        steps = [UP, DOWN] * 999 + [UP]
        self.assertIs(is_reason(NOR, 0, 1, steps), True)
        self.assertIs(is_reason(NOR, 0, 0, steps + [DOWN]), True)
        self.assertIs(is_reason(NOR, 0, 1, steps + [DOWN]), False)
        self.assertIs(is_reason(NOR, 0, 0, steps + [(1, 0, ("test", 0, 0, 0))]), False)
        inner = [(1, 0, ("put", 0, 0, 1, [UP]))]
        self.assertIs(is_reason(NOR, 0, 0, ([UP] + inner) * 600), True)
        self.assertIs(is_reason(NOR, 1, 0, [(1, 0, ("put", 0, 0, 1, [UP, DOWN] * 999 + [UP]))]), True)

    def test_a_reason_may_be_nested_50_deep(self):
        for depth in (1, 2, 49, 50, 51, 60):
            start, end, steps = nested(depth)
            self.assertIs(is_reason(NOR, start, end, steps), True)
            self.assertIs(is_reason(NOR, end, start, steps), False)
            inner = steps
            for _ in range(depth - 1):
                inner = inner[0][2][4]
            inner[0] = (0, 1, ("test", 0, 0, 0))
            self.assertIs(is_reason(NOR, start, end, steps), False)

    def test_nothing_is_modified(self):
        start, end, steps = nested(5)
        kept = copy.deepcopy(steps)
        is_reason(NOR, start, end, steps)
        self.assertEqual(steps, kept)

    def test_reasons_at_renamed_colours(self):
        for rows in list(all_rows(3))[::23]:
            for names in permutations(range(3)):
                renamed = Table(rows).renamed(names)
                for start, end in product(range(3), repeat=2):
                    steps = reason(Table(rows), start, end)
                    if steps is not None:
                        new = renamed_steps(steps, names)
                        self.assertIs(is_reason(renamed, names[start], names[end], new), True)


def leaves(value):
    """All items within a value that are neither lists nor tuples."""
    if not isinstance(value, (list, tuple)):
        return [value]
    return [leaf for item in value for leaf in leaves(item)]


if __name__ == "__main__":
    unittest.main()
