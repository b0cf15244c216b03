import copy
import unittest
from collections import OrderedDict, defaultdict
from itertools import permutations, product

from beanjars.errors import EmptyJar, InvalidColour, InvalidShape, LimitExceeded, WrongSize
from beanjars.jars import Jar
from beanjars.possible import class_of, class_sets, exclusion, is_bound, is_exclusion, last_beans
from beanjars.tables import Table
from samples import Agreeable, Touchy, all_counts, all_rows, mixed_rows, no_colours, no_integers, no_sequences, rows_of

NOR_ROWS = [[1, 0], [0, 0]]
NOR = Table(NOR_ROWS)
XOR = Table([[0, 1], [1, 0]])
MAX = Table([[0, 1], [1, 1]])
BIG = 10 ** 29 + 3
SHAPES = {
    1: [[(1, 1)], [(2, 1)], [(1, 3)], ((4, 2),), [(50, 50)]],
    2: [[(1, 1), (1, 1)], [(2, 1), (1, 2)], ((3, 2), (2, 3)), [(1, 4), (4, 1)]],
    3: [[(1, 1)] * 3, ((2, 1), (1, 2), (1, 1)), [(1, 2), (2, 2), (1, 3)]],
    4: [[(1, 1)] * 4, [(1, 2), (2, 1), (1, 1), (2, 1)]],
    5: [[(1, 1)] * 5, [(1, 2)] + [(1, 1)] * 4],
    6: [((1, 1),) * 6],
}


def plain_class(shape, counts):
    """The class of a jar, by the words of the document."""
    found = []
    for (start, period), count in zip(shape, counts):
        while count >= start + period:
            count -= period
        found.append(count)
    return tuple(found)


def plain_classes(shape):
    """All classes but that of the empty jar."""
    return list(product(*[range(start + period) for start, period in shape]))[1:]


def plain_sets(rows, shape):
    """The possible last beans for each class, by adding single beans and products until nothing changes."""
    size = len(rows)
    found = {one: set() for one in plain_classes(shape)}
    for colour in range(size):
        found[plain_class(shape, [int(other == colour) for other in range(size)])].add(colour)
    while True:
        many = sum(len(colours) for colours in found.values())
        for one, other in product(found, repeat=2):
            whole = plain_class(shape, [m + n for m, n in zip(one, other)])
            found[whole] |= {rows[x][y] for x in found[one] for y in found[other]}
        if many == sum(len(colours) for colours in found.values()):
            return {one: sorted(colours) for one, colours in found.items()}


def is_plain_colour(value, size):
    return isinstance(value, int) and value is not True and value is not False and 0 <= value < size


def is_plain_bound(rows, shape, value):
    """Whether a value is a bound, by the words of the document."""
    size = len(rows)
    if not isinstance(value, dict) or set(value) != set(plain_classes(shape)):
        return False
    for colours in value.values():
        if not isinstance(colours, list) or not all(is_plain_colour(colour, size) for colour in colours):
            return False
    for colour in range(size):
        if colour not in value[plain_class(shape, [int(other == colour) for other in range(size)])]:
            return False
    for one, other in product(value, repeat=2):
        whole = value[plain_class(shape, [m + n for m, n in zip(one, other)])]
        if any(rows[x][y] not in whole for x in value[one] for y in value[other]):
            return False
    return True


def is_plain_shape(value, size):
    """Whether a value is a shape, by the words of the document."""
    if not isinstance(value, (list, tuple)) or len(value) != size:
        return False
    return all(isinstance(item, tuple) and len(item) == 2 and all(
        isinstance(number, int) and number is not True and number is not False and number >= 1 for number in item)
        for item in value)


def no_shapes(size):
    """Values that are not shapes for so many colours."""
    right = [(1, 1)] * size
    wrong = no_sequences() + [[], (), right + [(1, 1)], right[1:], [right], [(1, 1, 1)] * size, [(1,)] * size,
                              [[1, 1]] * size, [1] * size, [(0, 1)] * size, [(1, 0)] * size, [(-1, 1)] * size,
                              [(1, -1)] * size, dict.fromkeys(right), iter(right)]
    for at in range(size):
        for item in [[1, 1], (1,), (), (1, 1, 1), (0, 1), (1, 0), (-BIG, 1), ((1, 1),)] + no_sequences():
            wrong.append(right[:at] + [item] + right[at + 1:])
        for value in no_integers() + [0, -1]:
            wrong.append(right[:at] + [(value, 1)] + right[at + 1:])
            wrong.append(tuple(right[:at] + [(1, value)] + right[at + 1:]))
    return wrong


def changed_bounds(bound, size):
    """Values that differ a little from a bound, and some that are bounds as well."""
    keys = list(bound)
    beyond = [max(key[at] for key in keys) + 1 for at in range(size)]
    for key in keys:
        for colours in [bound[key] + [colour] for colour in range(-1, size + 1)] + [
                [other for other in bound[key] if other != colour] for colour in range(size)] + [
                bound[key][::-1], bound[key] * 3, [], list(range(size)), tuple(bound[key]), set(bound[key]),
                dict.fromkeys(bound[key]), bound[key] + [True], bound[key] + [None], bound[key] + ["0"], None, 0,
                str(bound[key]), [bound[key]]]:
            new = dict(bound)
            new[key] = colours
            yield new
        yield {other: bound[other] for other in keys if other != key}
        for wrong in (key + (0,), key[1:], (0,) * len(key), (beyond[0],) + key[1:], key[:-1] + (beyond[-1],),
                      tuple(beyond), (-1,) + key[1:], (key[0] + BIG,) + key[1:], key[0],
                      str(key), None, frozenset(key), ("0",) + key[1:]):
            new = dict(bound)
            new[wrong] = [0]
            yield new
            new = dict(bound)
            del new[key]
            new[wrong] = bound[key]
            yield new
    yield {key: bound[key] for key in reversed(keys)}
    yield {key: list(range(size)) for key in keys}
    yield {key: list(range(size)) * 2 for key in keys}
    yield {key: [] for key in keys}
    yield OrderedDict(bound)
    yield defaultdict(list, bound)
    yield defaultdict(list)
    yield list(bound.items())
    yield [bound]
    yield (bound,)
    yield {}


def any_values():
    """Values of any other kind."""
    return no_sequences() + [[], (), [0], {}, {(): []}, {0: [0]}, {"x": 1}, [[(1, 1)], {}], {(1,): (0,)}]


class ClassOfTest(unittest.TestCase):
    def test_small_numbers(self):
        for start, period in product(range(1, 6), repeat=2):
            expected = list(range(start + period))
            while len(expected) < 40:
                expected.append(expected[-period])
            for count in range(40):
                self.assertEqual(class_of([(start, period)], Jar([count])), (expected[count],))

    def test_several_colours(self):
        for size, shapes in SHAPES.items():
            for shape in shapes:
                for counts in all_counts(size, 5 if size < 4 else 3) + [(0,) * size, (9,) * size]:
                    found = class_of(shape, Jar(counts))
                    self.assertIsInstance(found, tuple)
                    self.assertEqual(found, plain_class(shape, counts))

    def test_great_numbers(self):
        huge = 10 ** 59 + 7
        self.assertEqual(class_of([(3, 7)], Jar([huge])), (3 + (huge - 3) % 7,))
        self.assertEqual(class_of([(huge, 1)], Jar([huge - 1])), (huge - 1,))
        self.assertEqual(class_of([(huge, 1)], Jar([huge])), (huge,))
        self.assertEqual(class_of([(huge, 1)], Jar([huge + 1])), (huge,))
        self.assertEqual(class_of(((5, huge), (huge, huge)), Jar([huge + 4, 3 * huge + 2])), (huge + 4, huge + 2))
        self.assertEqual(class_of(((5, huge), (huge, huge)), Jar([huge + 5, 3 * huge])), (5, huge))
        self.assertEqual(class_of([(1, 1)] * 8, Jar([huge, 0] * 4)), (1, 0) * 4)
        self.assertEqual(class_of([(BIG, BIG)] * 8, Jar([5 * BIG - 1] * 8)), (2 * BIG - 1,) * 8)

    def test_class_of_a_sum(self):
        for shape in ([(1, 1), (1, 1)], [(2, 3), (4, 1)], [(BIG, 7), (3, BIG)], [(1, BIG), (BIG, BIG)]):
            some = [0, 1, 2, 5, 6, BIG - 1, BIG, 7 * BIG + 3]
            for m, n, o, p in product(some, repeat=4):
                one, other = Jar([m, n]), Jar([o, p])
                classes = Jar(class_of(shape, one)) + Jar(class_of(shape, other))
                self.assertEqual(class_of(shape, one + other), class_of(shape, classes))

    def test_invalid_shapes(self):
        for size in (1, 2, 3, 8):
            for shape in no_shapes(size):
                for count in (0, 1, BIG):
                    with self.assertRaises(InvalidShape):
                        class_of(shape, Jar([count] * size))

    def test_by_name(self):
        self.assertEqual(class_of(shape=[(1, 2)], jar=Jar([5])), (1,))


class ClassSetsTest(unittest.TestCase):
    def test_single_beans_and_all_products_and_nothing_else(self):
        for rows in list(all_rows(1)) + list(all_rows(2)) + list(all_rows(3))[::9]:
            for shape in SHAPES[len(rows)][:4]:
                self.assertEqual(class_sets(Table(rows), shape), plain_sets(rows, shape))
        for size in (4, 5, 6):
            for seed in range(3):
                for shape in SHAPES[size][:1 + (seed == 0)]:
                    self.assertEqual(class_sets(Table(mixed_rows(size, seed)), shape),
                                     plain_sets(mixed_rows(size, seed), shape))

    def test_keys_are_ascending_and_values_sorted(self):
        for size, shapes in SHAPES.items():
            for shape in shapes:
                found = class_sets(Table(mixed_rows(size, 3)), shape)
                self.assertIsInstance(found, dict)
                self.assertEqual(list(found), plain_classes(shape))
                for key, colours in found.items():
                    self.assertIsInstance(key, tuple)
                    self.assertIsInstance(colours, list)
                    self.assertEqual(colours, sorted(set(colours)))
                    self.assertTrue(colours)

    def test_possible_last_beans_of_jars_of_the_class(self):
        for rows in list(all_rows(2)) + list(all_rows(3))[::31]:
            table, size = Table(rows), len(rows)
            for shape in SHAPES[size][:2]:
                sets = class_sets(table, shape)
                seen = {key: set() for key in sets}
                for counts in all_counts(size, 8 if size == 2 else 5):
                    seen[class_of(shape, Jar(counts))].update(last_beans(table, Jar(counts)))
                for key in sets:
                    self.assertLessEqual(seen[key], set(sets[key]))
                if size == 2:
                    self.assertEqual({key: sorted(seen[key]) for key in seen}, sets)

    def test_it_is_the_bound_with_the_fewest_colours(self):
        for rows in list(all_rows(2))[::2]:
            table, shape = Table(rows), [(1, 1), (1, 1)]
            sets = class_sets(table, shape)
            self.assertIs(is_bound(table, shape, sets), True)
            choices = [[], [0], [1], [0, 1]]
            for lists in product(choices, repeat=3):
                value = dict(zip(sets, lists))
                if is_bound(table, shape, value):
                    for key in sets:
                        self.assertLessEqual(set(sets[key]), set(value[key]))

    def test_returned_lists_can_be_changed(self):
        shape = [(2, 1), (1, 2)]
        first = class_sets(NOR, shape)
        kept = copy.deepcopy(first)
        self.assertEqual(len({id(colours) for colours in first.values()}), len(first))
        for colours in first.values():
            colours.clear()
        first.clear()
        self.assertEqual(class_sets(NOR, shape), kept)
        self.assertEqual(shape, [(2, 1), (1, 2)])

    def test_examples(self):
        self.assertEqual(class_sets(MAX, [(1, 1), (1, 1)]), {(0, 1): [1], (1, 0): [0], (1, 1): [1]})
        self.assertEqual(class_sets(XOR, ((1, 1), (1, 2))),
                         {(0, 1): [1], (0, 2): [0], (1, 0): [0], (1, 1): [1], (1, 2): [0]})

    def test_by_name(self):
        found = class_sets(table=MAX, shape=[(1, 1), (1, 1)])
        self.assertIs(is_bound(table=MAX, shape=[(1, 1), (1, 1)], value=found), True)

    def test_renamed_colours(self):
        for rows in list(all_rows(3))[::43]:
            for names in permutations(range(3)):
                shape, moved = [(1, 2), (2, 1), (1, 1)], [None] * 3
                for colour, item in enumerate(shape):
                    moved[names[colour]] = item
                expected = {tuple(Jar(key).renamed(names).counts()): sorted(names[colour] for colour in colours)
                            for key, colours in class_sets(Table(rows), shape).items()}
                self.assertEqual(class_sets(Table(rows).renamed(names), moved), expected)
                self.assertIs(is_bound(Table(rows).renamed(names), moved, expected), True)


class IsBoundTest(unittest.TestCase):
    def check(self, rows, shape, value):
        table = Table(rows)
        result = is_bound(table, shape, value)
        self.assertIs(result, is_plain_bound(rows, shape, value), (rows, shape, value))
        self.assertEqual(table.rows(), rows)
        return result

    def test_returned_values(self):
        for size, shapes in SHAPES.items():
            for seed in range(3):
                for shape in shapes:
                    table = Table(mixed_rows(size, seed))
                    self.assertIs(is_bound(table, shape, class_sets(table, shape)), True)

    def test_changed_values(self):
        seen = {True: 0, False: 0}
        for rows in [[[0]]] + list(all_rows(2))[::2] + list(all_rows(3))[::149]:
            for shape in SHAPES[len(rows)][:2]:
                bound = class_sets(Table(rows), shape)
                for value in changed_bounds(bound, len(rows)):
                    kept = copy.deepcopy(value)
                    seen[self.check(rows, shape, value)] += 1
                    self.assertEqual(value, kept)
        self.assertGreater(min(seen.values()), 100)

    def test_all_values_with_few_colours(self):
        choices = [[], [0], [1], [0, 1], [1, 0], [0, 0]]
        seen = {True: 0, False: 0}
        for rows in all_rows(2):
            for lists in product(choices, repeat=3):
                value = {(1, 0): lists[0], (0, 1): lists[1], (1, 1): lists[2]}
                seen[self.check(rows, [(1, 1), (1, 1)], value)] += 1
        self.assertGreater(min(seen.values()), 20)

    def test_values_of_any_kind(self):
        for value in any_values():
            for shape in SHAPES[2]:
                self.assertIs(is_bound(NOR, shape, value), False)
            sets = class_sets(MAX, [(1, 1), (1, 1)])
            for key in sets:
                new = dict(sets)
                new[key] = value
                if not isinstance(value, list) or not value:
                    self.assertIs(is_bound(MAX, [(1, 1), (1, 1)], new), False)

    def test_colours_of_any_kind(self):
        sets = class_sets(MAX, [(1, 1), (1, 1)])
        for value in no_colours(2):
            for key in sets:
                new = dict(sets)
                new[key] = sets[key] + [value]
                self.assertIs(is_bound(MAX, [(1, 1), (1, 1)], new), False)

    def test_a_dict_that_makes_its_own_items_stays_as_it_is(self):
        value = defaultdict(lambda: [0, 1], {(0, 1): [1], (1, 0): [0]})
        self.assertIs(is_bound(MAX, [(1, 1), (1, 1)], value), False)
        self.assertEqual(list(value), [(0, 1), (1, 0)])
        value[1, 1] = [1]
        self.assertIs(is_bound(MAX, [(1, 1), (1, 1)], value), True)
        value[2, 2] = [1]
        self.assertIs(is_bound(MAX, [(1, 1), (1, 1)], value), False)
        self.assertEqual(len(value), 4)

    def test_great_keys(self):
        sets = class_sets(MAX, [(1, 1), (1, 1)])
        for key in ((0, BIG), (BIG, 0), (-BIG, 1)):
            new = dict(sets)
            del new[1, 1]
            new[key] = [1]
            self.assertIs(is_bound(MAX, [(1, 1), (1, 1)], new), False)


class LimitTest(unittest.TestCase):
    def test_just_100_classes(self):
        for shape in ([(50, 50)], [(99, 1)], [(1, 99)], [(1, 9), (5, 5)], [(1, 1), (49, 1)], [(1, 1), (1, 1), (24, 1)],
                      [(1, 4), (2, 3), (1, 1), (1, 1)], ((1, 1), (1, 4), (4, 1), (1, 1))):
            for seed in range(2):
                table = Table(mixed_rows(len(shape), seed))
                sets = class_sets(table, shape)
                self.assertEqual(len(sets), 99)
                self.assertIs(is_bound(table, shape, sets), True)
                sets[max(sets)] = []
                self.assertIs(is_bound(table, shape, sets), False)
                full = {key: list(range(len(shape))) for key in sets}
                self.assertIs(is_bound(table, shape, full), True)
                jar = Jar([BIG] * len(shape))
                for colour in range(len(shape)):
                    found = exclusion(table, jar, colour, shape=shape)
                    self.assertIs(found is None or is_exclusion(table, jar, colour, found), True)

    def test_more_than_100_classes(self):
        for shape in ([(100, 1)], [(1, 100)], [(50, 51)], [(51, 50)], [(1, 1), (50, 1)], [(1, 9), (10, 1)],
                      [(1, 1)] * 7, [(1, 1)] * 8, [(BIG, 1)], [(1, BIG)] * 8, [(BIG, BIG)] * 3):
            table = Table(mixed_rows(len(shape), 1))
            jar = Jar([1] * len(shape))
            for call in (lambda: class_sets(table, shape), lambda: is_bound(table, shape, None),
                         lambda: is_bound(table, shape, {}), lambda: exclusion(table, jar, 0, shape=shape)):
                with self.assertRaises(LimitExceeded) as caught:
                    call()
                self.assertEqual(caught.exception.limit, 100)

    def test_jars_with_just_100_classes(self):
        for counts in ((98,), (8, 8), (0, 48), (3, 18), (0, 0, 23), (3, 3, 2), (0, 0, 3, 3)):
            table, jar = Table(rows_of(len(counts), max)), Jar(counts)
            for colour in range(len(counts)):
                found = exclusion(table, jar, colour)
                if colour == jar.colours()[-1]:
                    self.assertIsNone(found)
                else:
                    self.assertIs(is_exclusion(table, jar, colour, found), True)

    def test_jars_with_more_than_100_classes(self):
        for counts in ((99,), (100,), (8, 9), (0, 49), (BIG, 0), (1, 0, 0, 0, 0, 0, 0), (BIG,) * 8, (1,) + (0,) * 7):
            table, jar = Table(rows_of(len(counts), max)), Jar(counts)
            with self.assertRaises(LimitExceeded) as caught:
                exclusion(table, jar, 0)
            self.assertEqual(caught.exception.limit, 100)
            self.assertIs(is_exclusion(table, jar, 0, None), False)

    def test_no_exclusion_has_more_than_100_classes(self):
        jar = Jar([BIG, 0])
        for many in (49, 50, 51, 200):
            shape = [(1, many), (1, 1)]
            bound = {key: [1] if key[1] else [0] for key in plain_classes(shape)}
            self.assertIs(is_exclusion(MAX, jar, 1, (shape, bound)), many == 49)
        self.assertIs(is_exclusion(MAX, jar, 1, ([(BIG, BIG)] * 2, {})), False)


class ExclusionTest(unittest.TestCase):
    def check(self, rows, counts):
        table, jar = Table(rows), Jar(counts)
        possible = last_beans(table, jar)
        for colour in range(len(rows)):
            found = exclusion(table, jar, colour)
            self.assertIs(found is None, colour in possible)
            if found is not None:
                self.assertIsInstance(found, tuple)
                shape, bound = found
                self.assertEqual(shape, [(count + 1, 1) for count in counts])
                self.assertIsInstance(shape, list)
                self.assertTrue(is_plain_bound(rows, shape, bound))
                self.assertNotIn(colour, bound[plain_class(shape, counts)])
                self.assertIs(is_exclusion(table, jar, colour, found), True)
                for other in range(len(rows)):
                    excluded = other not in bound[plain_class(shape, counts)]
                    self.assertIs(is_exclusion(table, jar, other, found), excluded)

    def test_one_exactly_if_no_way_leads_to_the_colour(self):
        for rows in list(all_rows(1)) + list(all_rows(2)):
            for counts in all_counts(len(rows), 5):
                self.check(rows, counts)

    def test_three_and_more_colours(self):
        for rows in list(all_rows(3))[::149]:
            for counts in all_counts(3, 4)[::4]:
                self.check(rows, counts)
        for seed in range(3):
            for counts in ((1, 1, 1, 1), (0, 2, 0, 2), (1, 0, 0, 2)):
                self.check(mixed_rows(4, seed), counts)
            self.check(mixed_rows(5, seed), (1, 0, 0, 1, 0))
            self.check(mixed_rows(6, seed), (0, 0, 0, 0, 0, 1))

    def test_with_a_shape(self):
        for rows in list(all_rows(2))[::3] + list(all_rows(3))[::149]:
            table, size = Table(rows), len(rows)
            for shape in SHAPES[size]:
                sets = plain_sets(rows, shape)
                for counts in all_counts(size, 4) + [(BIG,) * size, (BIG + 1, BIG - 5, 0)[:size]]:
                    for colour in range(size):
                        found = exclusion(table, Jar(counts), colour, shape=shape)
                        if colour in sets[class_of(shape, Jar(counts))]:
                            self.assertIsNone(found)
                            continue
                        self.assertEqual(found[0], list(shape))
                        self.assertIsInstance(found[0], list)
                        self.assertEqual(found[1], sets)
                        self.assertIs(is_exclusion(table, Jar(counts), colour, found), True)
                        if max(counts) < 9:
                            self.assertNotIn(colour, last_beans(table, Jar(counts)))

    def test_great_counts_with_a_shape(self):
        even, odd = 10 ** 29 + 2, 10 ** 29 + 3
        shape = [(1, 1), (1, 2)]
        for counts, bean in (((odd, even), 0), ((0, even), 0), ((even, odd), 1), ((0, odd), 1), ((BIG, 0), 0)):
            found = exclusion(XOR, Jar(counts), 1 - bean, shape=shape)
            self.assertIs(is_exclusion(XOR, Jar(counts), 1 - bean, found), True)
            self.assertIsNone(exclusion(XOR, Jar(counts), bean, shape=shape))
            self.assertIs(is_exclusion(XOR, Jar(counts), bean, found), False)
            if counts[1] > 0:
                self.assertIsNone(exclusion(XOR, Jar(counts), 1 - bean, shape=[(1, 1), (1, 1)]))

    def test_shape_is_by_keyword_only(self):
        with self.assertRaises(TypeError):
            exclusion(MAX, Jar([1, 0]), 1, [(1, 1), (1, 1)])
        found = exclusion(table=MAX, jar=Jar([1, 0]), colour=1, shape=((1, 1), (1, 1)))
        self.assertEqual(found, ([(1, 1), (1, 1)], {(0, 1): [1], (1, 0): [0], (1, 1): [1]}))
        self.assertIs(is_exclusion(table=MAX, jar=Jar([1, 0]), colour=1, value=found), True)
        self.assertEqual(exclusion(MAX, Jar([1, 0]), 1, shape=None), exclusion(MAX, Jar([1, 0]), 1))

    def test_results_and_arguments_are_not_shared(self):
        shape, jar = [(1, 1), (1, 1)], Jar([1, 0])
        found = exclusion(MAX, jar, 1, shape=shape)
        self.assertIsNot(found[0], shape)
        found[0].clear()
        found[1].clear()
        self.assertEqual(shape, [(1, 1), (1, 1)])
        self.assertEqual(exclusion(MAX, jar, 1, shape=shape)[0], shape)
        self.assertEqual(len(exclusion(MAX, jar, 1, shape=shape)[1]), 3)

    def test_errors_in_their_order(self):
        for size in (1, 3, 8):
            for count, colour, shape in ((0, "x", "x"), (1, 0, None), (BIG, None, [])):
                with self.assertRaises(WrongSize):
                    exclusion(NOR, Jar([count] * size), colour, shape=shape)
        for colour, shape in (("x", "x"), (0, None), (None, [])):
            with self.assertRaises(EmptyJar):
                exclusion(NOR, Jar([0, 0]), colour, shape=shape)
        for value in no_colours(2):
            for shape in (None, "x", [(BIG, 1)] * 2, [(1, 1)] * 2):
                with self.assertRaises(InvalidColour) as caught:
                    exclusion(NOR, Jar([BIG, 1]), value, shape=shape)
                self.assertIs(caught.exception.value, value)
        for shape in no_shapes(2):
            if shape is not None:
                with self.assertRaises(InvalidShape):
                    exclusion(NOR, Jar([BIG, 1]), 0, shape=shape)
        with self.assertRaises(InvalidShape):
            exclusion(NOR, Jar([BIG, 1]), 0, shape=[(BIG, 0)] * 2)
        with self.assertRaises(LimitExceeded):
            exclusion(NOR, Jar([BIG, 1]), 0)

    def test_errors_of_the_other_functions(self):
        for size in (1, 2, 3):
            table = Table(rows_of(size, max))
            for shape in no_shapes(size) + [[(BIG, 0)] * size]:
                for call in (lambda: class_sets(table, shape), lambda: is_bound(table, shape, None)):
                    with self.assertRaises(InvalidShape):
                        call()

    def test_renamed_colours(self):
        for rows in list(all_rows(3))[::97]:
            for names in permutations(range(3)):
                table, jar = Table(rows), Jar([1, 2, 1])
                for colour in range(3):
                    found = exclusion(table, jar, colour)
                    other = exclusion(table.renamed(names), jar.renamed(names), names[colour])
                    self.assertIs(found is None, other is None)
                    if found is not None:
                        moved = [None] * 3
                        for at, item in enumerate(found[0]):
                            moved[names[at]] = item
                        bound = {tuple(Jar(key).renamed(names).counts()): [names[one] for one in colours]
                                 for key, colours in found[1].items()}
                        self.assertIs(is_exclusion(table.renamed(names), jar.renamed(names), names[colour],
                                                   (moved, bound)), True)


class IsExclusionTest(unittest.TestCase):
    def check(self, rows, counts, colour, value):
        result = is_exclusion(Table(rows), Jar(counts), colour, value)
        expected = isinstance(value, tuple) and len(value) == 2 and is_plain_shape(value[0], len(rows)) and (
            is_plain_bound(rows, *value)) and colour not in value[1][plain_class(value[0], counts)]
        self.assertIs(result, expected, (rows, counts, colour, value))
        if result:
            self.assertNotIn(colour, last_beans(Table(rows), Jar(counts)))
        return result

    def test_changed_bounds(self):
        seen = {True: 0, False: 0}
        for rows in list(all_rows(2)) + list(all_rows(3))[::400]:
            shape = SHAPES[len(rows)][1]
            bound = class_sets(Table(rows), shape)
            for value in changed_bounds(bound, len(rows)):
                kept = copy.deepcopy(value)
                for counts in ((2, 0, 0), (1, 2, 0), (0, 1, 1)):
                    for colour in range(len(rows)):
                        seen[self.check(rows, counts[:len(rows)], colour, (shape, value))] += 1
                self.assertEqual(value, kept)
        self.assertGreater(min(seen.values()), 1000)

    def test_all_bounds_with_few_colours(self):
        choices = [[], [0], [1], [1, 0, 1]]
        seen = {True: 0, False: 0}
        for rows in all_rows(2):
            for lists in product(choices, repeat=3):
                value = ([(1, 1), (1, 1)], {(1, 0): lists[0], (0, 1): lists[1], (1, 1): lists[2]})
                for counts in ((1, 0), (0, 3), (2, 2)):
                    for colour in range(2):
                        seen[self.check(rows, counts, colour, value)] += 1
        self.assertGreater(min(seen.values()), 20)

    def test_changed_shapes(self):
        right = exclusion(MAX, Jar([2, 0]), 1)
        self.assertEqual(right[0], [(3, 1), (1, 1)])
        for shape in ([(3, 1), (1, 1)], ((3, 1), (1, 1)), [(2, 2), (1, 1)], [(1, 3), (1, 1)], [(3, 1), (1, 2)],
                      [(3, 1)], [(3, 1), (1, 1), (1, 1)], [(1, 1), (3, 1)], [(4, 0), (1, 1)], [(0, 4), (1, 1)],
                      [(3, 1), (2, 0)], [(3, 1), (0, 2)], [[3, 1], [1, 1]], [(3, 1, 1), (1, 1)], [(3,), (1, 1)],
                      [(3, True), (1, 1)], [(3, 1), (True, 1)], [(5, -1), (1, 1)], None, "x", 0, {}, []):
            self.check([[0, 1], [1, 1]], (2, 0), 1, (shape, right[1]))
        self.assertIs(is_exclusion(MAX, Jar([2, 0]), 1, (((3, 1), (1, 1)), right[1])), True)

    def test_values_of_any_kind(self):
        shape, bound = exclusion(MAX, Jar([2, 0]), 1)
        wrong = any_values() + [(), (shape,), (shape, bound, None), (shape, bound, bound), [shape, bound],
                                (bound, shape), {0: shape, 1: bound}, ((shape, bound),), (shape, shape)]
        for value in any_values():
            wrong += [(value, bound), (shape, value), (value, value), (value,)]
        for value in wrong:
            self.assertIs(is_exclusion(MAX, Jar([2, 0]), 1, value), False)
        for value in no_shapes(2):
            self.assertIs(is_exclusion(MAX, Jar([2, 0]), 1, (value, bound)), False)
        self.assertIs(is_exclusion(MAX, Jar([2, 0]), 1, (shape, bound)), True)

    def test_touchy_values(self):
        for value in (Touchy(), Agreeable()):
            for at in ([(value, 1), (1, 1)], [(1, 1), value], [value, value]):
                self.assertIs(is_exclusion(MAX, Jar([2, 0]), 1, (at, {})), False)

    def test_errors_in_their_order(self):
        for value in (None, "x", ([(1, 1)] * 2, {})):
            for size in (1, 3):
                for count, colour in ((0, "x"), (1, 0)):
                    with self.assertRaises(WrongSize):
                        is_exclusion(NOR, Jar([count] * size), colour, value)
            for colour in ("x", 0):
                with self.assertRaises(EmptyJar):
                    is_exclusion(NOR, Jar([0, 0]), colour, value)
            for colour in no_colours(2):
                with self.assertRaises(InvalidColour) as caught:
                    is_exclusion(NOR, Jar([1, BIG]), colour, value)
                self.assertIs(caught.exception.value, colour)


if __name__ == "__main__":
    unittest.main()
