import unittest
from itertools import permutations

from beanjars.errors import InvalidColour, InvalidJar, InvalidNumber, InvalidRenaming, NotEnough, WrongSize
from beanjars.jars import Jar
from samples import Agreeable, Touchy, no_colours, no_integers, no_renamings, no_sequences

BIG = 10 ** 29 + 7
SOME = [[0], [1], [5], [0, 0], [1, 2], [3, 0, 1], [0, 2, 0, 0], [1] * 8, [0] * 8, [BIG, 0, 3 * BIG],
        [0, 1, 2, 3, 4, 5, 6, BIG]]


class JarTest(unittest.TestCase):
    def test_size_total_counts_and_colours(self):
        for counts in SOME:
            for given in (counts, tuple(counts)):
                jar = Jar(given)
                self.assertEqual(jar.size, len(counts))
                self.assertEqual(jar.total, sum(counts))
                self.assertEqual(jar.counts(), counts)
                self.assertIsInstance(jar.counts(), list)
                self.assertEqual(jar.colours(), [c for c in range(len(counts)) if counts[c] > 0])

    def test_by_name(self):
        self.assertEqual(Jar(counts=[1, 2]).counts(), [1, 2])
        self.assertEqual(Jar.of_beans(size=2, beans=[1, 1]).counts(), [0, 2])
        self.assertEqual(Jar([1, 2]).renamed(names=[1, 0]).counts(), [2, 1])
        self.assertIs(Jar([1, 2]).can_draw(value=(0, 1)), True)

    def test_count_of_a_colour(self):
        for counts in SOME:
            for colour, count in enumerate(counts):
                self.assertEqual(Jar(counts)[colour], count)

    def test_membership_of_any_value(self):
        for counts in SOME:
            jar = Jar(counts)
            for colour, count in enumerate(counts):
                self.assertIs(colour in jar, count > 0)
            for value in no_colours(len(counts)):
                self.assertIs(value in jar, False)

    def test_truth(self):
        for counts in SOME:
            self.assertIs(bool(Jar(counts)), sum(counts) > 0)

    def test_equality(self):
        for counts in SOME:
            for other in SOME:
                self.assertIs(Jar(counts) == Jar(tuple(other)), counts == other)
                self.assertIs(Jar(counts) != Jar(tuple(other)), counts != other)

    def test_no_equality_with_other_kinds(self):
        for other in [[1, 2], (1, 2), None, 3, "1 2", object(), Agreeable(), Touchy()]:
            self.assertIs(Jar([1, 2]) == other, False)
            self.assertIs(Jar([1, 2]) != other, True)

    def test_jars_cannot_be_iterated(self):
        for use in (iter, list, tuple, sorted, sum):
            with self.assertRaises(TypeError):
                use(Jar([1, 2]))
        with self.assertRaises(TypeError):
            first, second = Jar([1, 2])

    def test_given_and_returned_lists_are_not_shared(self):
        counts = [1, 2]
        jar = Jar(counts)
        counts[0] = 9
        counts.append(1)
        jar.counts()[0] = 9
        jar.colours().clear()
        jar.draws().clear()
        self.assertEqual((jar.counts(), jar.colours(), jar.draws()), ([1, 2], [0, 1], [(0, 1), (1, 1)]))
        beans = [0, 1]
        jar = Jar.of_beans(2, beans)
        beans.append(1)
        self.assertEqual((beans, jar.counts()), ([0, 1, 1], [1, 1]))


class OfBeansTest(unittest.TestCase):
    def test_jars_of_beans(self):
        self.assertEqual(Jar.of_beans(3, [2, 0, 2, 2]).counts(), [1, 0, 3])
        self.assertEqual(Jar.of_beans(3, (2, 0, 2, 2)).counts(), [1, 0, 3])
        self.assertIsInstance(Jar.of_beans(3, [2]), Jar)
        for size in range(1, 9):
            self.assertEqual(Jar.of_beans(size, []).counts(), [0] * size)
            self.assertEqual(Jar.of_beans(size, ()).counts(), [0] * size)
            self.assertEqual(Jar.of_beans(size, list(range(size)) * 3).counts(), [3] * size)

    def test_invalid_size_comes_first(self):
        for size in no_integers() + [0, -1, 9, 10 ** 30]:
            for beans in ([0], None, ["x"]):
                with self.assertRaises(InvalidNumber) as caught:
                    Jar.of_beans(size, beans)
                self.assertIs(caught.exception.value, size)

    def test_beans_that_are_no_list_or_tuple(self):
        for beans in no_sequences():
            with self.assertRaises(InvalidColour) as caught:
                Jar.of_beans(2, beans)
            self.assertIs(caught.exception.value, beans)

    def test_first_bean_that_is_no_colour(self):
        for value in no_colours(3):
            for beans in ([value], [0, value, 9], (1, 2, value, "x")):
                with self.assertRaises(InvalidColour) as caught:
                    Jar.of_beans(3, beans)
                self.assertIs(caught.exception.value, value)

    def test_a_colour_of_a_larger_size(self):
        self.assertEqual(Jar.of_beans(8, [7]).counts(), [0] * 7 + [1])
        with self.assertRaises(InvalidColour):
            Jar.of_beans(7, [7])


class InvalidJarTest(unittest.TestCase):
    def test_counts_of_other_kinds_and_lengths(self):
        for counts in no_sequences() + [[], (), [0] * 9, (1,) * 9]:
            with self.assertRaises(InvalidJar):
                Jar(counts)

    def test_items_that_are_no_counts(self):
        for value in no_integers() + [-1, -10 ** 30]:
            for counts in ([value], [0, value], [value, 3], (1, value, 2)):
                with self.assertRaises(InvalidJar):
                    Jar(counts)

    def test_keys_that_are_no_colours(self):
        jar = Jar([3, 0])
        for key in no_colours(2) + [(0, 1)]:
            with self.assertRaises(InvalidColour) as caught:
                jar[key]
            self.assertIs(caught.exception.value, key)


class ArithmeticTest(unittest.TestCase):
    def test_sums_and_differences(self):
        for counts in SOME:
            for other in SOME:
                if len(counts) == len(other):
                    one, two = Jar(counts), Jar(other)
                    both = one + two
                    self.assertEqual(both.counts(), [x + y for x, y in zip(counts, other)])
                    self.assertEqual(both - two, one)
                    self.assertEqual((one - one).counts(), [0] * len(counts))
                    self.assertEqual((one.counts(), two.counts()), (counts, other))

    def test_multiples(self):
        for counts in SOME:
            for number in (0, 1, 2, 7, BIG):
                jar = Jar(counts)
                self.assertEqual((jar * number).counts(), [count * number for count in counts])
                self.assertEqual(jar.counts(), counts)

    def test_in_place_signs_make_new_jars(self):
        first = jar = Jar([1, 2])
        jar += Jar([1, 0])
        jar -= Jar([0, 1])
        jar *= 2
        self.assertEqual((jar.counts(), first.counts()), ([4, 2], [1, 2]))

    def test_other_sizes(self):
        for one, other in (([1], [1, 0]), ([1, 0], [1]), ([0], [5, 5]), ([0] * 7, [0] * 8)):
            with self.assertRaises(WrongSize):
                Jar(one) + Jar(other)
            with self.assertRaises(WrongSize):
                Jar(one) - Jar(other)

    def test_first_colour_with_too_few_beans(self):
        for one, other, colour in (([0], [1], 0), ([1, 2, 3], [1, 3, 4], 1), ([5, 5, 0], [0, 5, 1], 2),
                                   ([BIG, 1], [BIG + 1, 0], 0)):
            with self.assertRaises(NotEnough) as caught:
                Jar(one) - Jar(other)
            self.assertEqual(caught.exception.colour, colour)

    def test_numbers_that_are_no_factors(self):
        for number in no_integers() + [-1, -10 ** 30, Jar([1])]:
            with self.assertRaises(InvalidNumber) as caught:
                Jar([1, 2]) * number
            self.assertIs(caught.exception.value, number)


class RenamedTest(unittest.TestCase):
    def test_counts_move_with_the_colours(self):
        counts = [1, 0, 5, 7]
        for names in permutations(range(4)):
            for given in (names, list(names)):
                jar = Jar(counts)
                new = jar.renamed(given)
                self.assertIsInstance(new, Jar)
                self.assertEqual([new[names[c]] for c in range(4)], counts)
                self.assertEqual(jar.counts(), counts)

    def test_a_cycle_is_not_taken_backwards(self):
        self.assertEqual(Jar([4, 5, 6]).renamed([1, 2, 0]).counts(), [6, 4, 5])

    def test_names_are_not_modified(self):
        names = [1, 0]
        Jar([1, 2]).renamed(names)
        self.assertEqual(names, [1, 0])

    def test_wrong_renamings(self):
        for size in range(1, 5):
            for names in no_renamings(size):
                with self.assertRaises(InvalidRenaming):
                    Jar([1] * size).renamed(names)


if __name__ == "__main__":
    unittest.main()
