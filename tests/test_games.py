import unittest
from collections import OrderedDict, defaultdict
from fractions import Fraction
from itertools import permutations, product
from math import comb

from beanjars.chances import chance_of
from beanjars.errors import EmptyJar, InvalidNumber, InvalidOrder, InvalidTurn, InvalidWanted, LimitExceeded, WrongSize
from beanjars.games import best_chance, good_draws, is_plan, outcome, plan, winner
from beanjars.jars import Jar
from beanjars.possible import last_beans
from beanjars.tables import Table
from samples import Agreeable, Touchy, all_counts, all_rows, counts_with_total, draws_and_jars, mixed_rows, \
    no_different_colours, no_integers, no_numbers, no_renamings, no_sequences, rows_of
from test_chances import BIG, jars_beyond, limit_jars, pair, share_of

NOR = Table([[1, 0], [0, 0]])


def plain_winner(rows, counts, wanted, turn, known):
    """The person who can force the own goal, by going back from the last draws."""
    if sum(counts) == 1:
        return 1 if counts.index(1) in wanted else 2
    key = (counts, turn)
    if key not in known:
        winners = [plain_winner(rows, left, wanted, 3 - turn, known) for draw, left in draws_and_jars(rows, counts)]
        known[key] = turn if turn in winners else 3 - turn
    return known[key]


def plain_outcome(rows, counts, order, turn, known):
    """The place in the order of the last bean if both persons draw as well as they can."""
    if sum(counts) == 1:
        return order.index(counts.index(1))
    key = (counts, turn)
    if key not in known:
        places = [plain_outcome(rows, left, order, 3 - turn, known) for draw, left in draws_and_jars(rows, counts)]
        known[key] = min(places) if turn == 1 else max(places)
    return known[key]


def plain_best(rows, counts, wanted, turn, person, known):
    """The greatest chance of the own goal if the other person draws at random."""
    if sum(counts) == 1:
        return Fraction(int((counts.index(1) in wanted) == (person == 1)))
    key = (counts, turn)
    if key not in known:
        found = [(draw, plain_best(rows, left, wanted, 3 - turn, person, known))
                 for draw, left in draws_and_jars(rows, counts)]
        if turn == person:
            known[key] = max(chance for draw, chance in found)
        else:
            known[key] = sum((share_of(counts, draw) * chance for draw, chance in found), Fraction(0))
    return known[key]


def wins(rows, counts, wanted, turn, person, value):
    """Whether a person gets the own goal with the draws of a dict, whatever the other person draws."""
    if sum(counts) == 1:
        return (counts.index(1) in wanted) == (person == 1)
    following = draws_and_jars(rows, counts)
    if turn == person:
        draw = value[counts] if counts in value else None
        following = [(other, left) for other, left in following if other == draw]
        if not following:
            return False
    return all(wins(rows, left, wanted, 3 - turn, person, value) for draw, left in following)


def all_wanted(size):
    """All lists of different colours, each once in ascending order."""
    return [[colour for colour in range(size) if number >> colour & 1] for number in range(2 ** size)]


def some_games():
    """Rows, counts and wanted colours."""
    found = []
    for rows in list(all_rows(1)) + list(all_rows(2)):
        found += [(rows, counts, wanted) for counts in all_counts(len(rows), 7) for wanted in all_wanted(len(rows))]
    for at, rows in enumerate(list(all_rows(3))[::23] + [mixed_rows(3, seed) for seed in range(5)]):
        found += [(rows, counts, all_wanted(3)[1 + at % 7]) for counts in all_counts(3, 6)]
    for size in range(4, 9):
        for seed in range(5):
            wanted = all_wanted(size)[(5 * seed + 3 * size) % 2 ** size]
            found += [(mixed_rows(size, seed), counts, wanted) for counts in counts_with_total(size, 4)[::5]]
    return found


def limit_games():
    """Rows, counts and wanted colours of jars that are just small."""
    return [(mixed_rows(len(counts), seed), counts, list(range(0, len(counts), 2)))
            for counts in limit_jars() for seed in range(2)]


def calls_of(table, jar, wanted, turn, person=1):
    """A call of each function that takes wanted colours."""
    return [lambda: winner(table, jar, wanted, turn=turn), lambda: good_draws(table, jar, wanted, turn=turn),
            lambda: plan(table, jar, wanted, turn=turn), lambda: is_plan(table, jar, wanted, person, {}, turn=turn),
            lambda: is_plan(table, jar, wanted, person, None, turn=turn),
            lambda: best_chance(table, jar, wanted, turn=turn, person=person)]


def all_calls(table, jar, wanted, turn, person=1):
    """A call of each function of games."""
    return calls_of(table, jar, wanted, turn, person) + [lambda: outcome(table, jar, wanted, turn=turn)]


class WinnerTest(unittest.TestCase):
    def test_against_going_back_from_the_last_draws(self):
        for rows, counts, wanted in some_games() + limit_games():
            for turn in (1, 2):
                expected = plain_winner(rows, counts, wanted, turn, {})
                for given in (wanted, tuple(wanted[::-1])):
                    self.assertEqual(winner(Table(rows), Jar(counts), given, turn=turn), expected)
                if turn == 1:
                    self.assertEqual(winner(Table(rows), Jar(counts), wanted), expected)

    def test_persons_can_differ_by_who_begins(self):
        self.assertEqual((winner(NOR, Jar([2, 1]), [1]), winner(NOR, Jar([2, 1]), [1], turn=2)), (1, 2))
        kinds = {(plain_winner(rows, counts, wanted, 1, {}), plain_winner(rows, counts, wanted, 2, {}))
                 for rows, counts, wanted in some_games()}
        self.assertEqual(kinds, {(1, 1), (1, 2), (2, 1), (2, 2)})

    def test_no_colour_and_all_colours(self):
        for rows, counts, wanted in some_games()[::9] + limit_games():
            table, jar, size = Table(rows), Jar(counts), len(rows)
            for turn in (1, 2):
                for empty in ([], ()):
                    self.assertEqual(winner(table, jar, empty, turn=turn), 2)
                for given in (list(range(size)), tuple(range(size)), list(range(size))[::-1]):
                    self.assertEqual(winner(table, jar, given, turn=turn), 1)

    def test_goals_that_no_drawing_misses(self):
        for rows, counts, wanted in some_games()[::5]:
            if sum(counts) < 5:
                found = last_beans(Table(rows), Jar(counts))
                for turn in (1, 2):
                    self.assertEqual(winner(Table(rows), Jar(counts), found, turn=turn), 1)
                    others = [colour for colour in range(len(rows)) if colour not in found]
                    self.assertEqual(winner(Table(rows), Jar(counts), others, turn=turn), 2)


class GoodDrawsTest(unittest.TestCase):
    def test_against_going_back_from_the_last_draws(self):
        for rows, counts, wanted in some_games() + limit_games():
            for turn in (1, 2):
                known = {}
                expected = [draw for draw, left in draws_and_jars(rows, counts)
                            if plain_winner(rows, left, wanted, 3 - turn, known) == turn]
                found = good_draws(Table(rows), Jar(counts), tuple(wanted), turn=turn)
                self.assertIsInstance(found, list)
                self.assertEqual(found, expected)
                if turn == 1:
                    self.assertEqual(good_draws(Table(rows), Jar(counts), wanted), expected)

    def test_one_bean(self):
        for wanted in ([], [0], [1], [0, 1]):
            for turn in (1, 2):
                self.assertEqual(good_draws(NOR, Jar([0, 1]), wanted, turn=turn), [])

    def test_returned_lists_can_be_changed(self):
        good_draws(NOR, Jar([2, 1]), [1]).clear()
        self.assertEqual(good_draws(NOR, Jar([2, 1]), [1]), [(0, 1)])
        self.assertEqual(good_draws(NOR, Jar([2, 1]), [1], turn=2), [(0, 0)])


class OutcomeTest(unittest.TestCase):
    def test_against_going_back_from_the_last_draws(self):
        for rows, counts, wanted in some_games()[::3] + limit_games():
            size = len(rows)
            orders = list(permutations(range(size))) if size < 4 else [
                tuple(range(size)), tuple(range(size))[::-1], tuple(range(1, size)) + (0,)]
            for order in orders[:4] + orders[5:]:
                for turn in (1, 2):
                    expected = order[plain_outcome(rows, counts, order, turn, {})]
                    for given in (order, list(order)):
                        self.assertEqual(outcome(Table(rows), Jar(counts), given, turn=turn), expected)
                    if turn == 1:
                        self.assertEqual(outcome(Table(rows), Jar(counts), order), expected)

    def test_against_the_winner_for_the_first_colours(self):
        for rows, counts, wanted in some_games()[::7]:
            table, jar, size = Table(rows), Jar(counts), len(rows)
            for order in (list(range(size)), list(range(size))[::-1], list(range(1, size)) + [0]):
                for turn in (1, 2):
                    place = order.index(outcome(table, jar, order, turn=turn))
                    for many in range(size + 1):
                        expected = 1 if place < many else 2
                        self.assertEqual(winner(table, jar, order[:many], turn=turn), expected)

    def test_wrong_orders(self):
        for table, jar in ((NOR, Jar([2, 1])), (Table(mixed_rows(3, 1)), Jar([1, 0, 0])), (Table([[0]]), Jar([30]))):
            for order in no_renamings(table.size):
                for turn in (1, 3):
                    with self.assertRaises(InvalidOrder):
                        outcome(table, jar, order, turn=turn)
        with self.assertRaises(InvalidOrder):
            outcome(NOR, Jar([2, 1]), [1])


class PlanTest(unittest.TestCase):
    def test_plans_win_against_all_draws(self):
        for rows, counts, wanted in some_games():
            for turn in (1, 2):
                table, jar = Table(rows), Jar(counts)
                found = plan(table, jar, wanted, turn=turn)
                self.assertIsInstance(found, tuple)
                person, value = found
                self.assertEqual(person, plain_winner(rows, counts, wanted, turn, {}))
                self.check_form(rows, value)
                self.assertTrue(wins(rows, counts, wanted, turn, person, value))
                self.assertIs(is_plan(table, jar, wanted, person, value, turn=turn), True)
                self.assertIs(is_plan(table, jar, tuple(wanted), 3 - person, value, turn=turn), False)

    def check_form(self, rows, value):
        self.assertIsInstance(value, dict)
        for counts, draw in value.items():
            self.assertIsInstance(counts, tuple)
            self.assertIsInstance(draw, tuple)
            self.assertIn(draw, [other for other, left in draws_and_jars(rows, counts)])

    def test_at_the_limits(self):
        for rows, counts, wanted in limit_games():
            for turn in (1, 2):
                person, value = plan(Table(rows), Jar(counts), wanted, turn=turn)
                self.assertEqual(person, plain_winner(rows, counts, wanted, turn, {}))
                self.check_form(rows, value)
                self.assertTrue(self.wins_at_once(rows, counts, wanted, turn, person, value))
                self.assertIs(is_plan(Table(rows), Jar(counts), wanted, person, value, turn=turn), True)
                for other in list(value)[:20]:
                    less = {one: value[one] for one in value if one != other}
                    expected = self.wins_at_once(rows, counts, wanted, turn, person, less)
                    self.assertIs(is_plan(Table(rows), Jar(counts), wanted, person, less, turn=turn), expected)

    def wins_at_once(self, rows, counts, wanted, turn, person, value):
        """Like wins, but all jars with equally many beans are looked at together."""
        level = {counts}
        while sum(next(iter(level))) > 1:
            following = set()
            for one in level:
                draws = draws_and_jars(rows, one)
                if turn == person:
                    draws = [(draw, left) for draw, left in draws if draw == value.get(one)]
                    if not draws:
                        return False
                following |= {left for draw, left in draws}
            level, turn = following, 3 - turn
        return all((one.index(1) in wanted) == (person == 1) for one in level)

    def test_turn_is_1_if_none_is_passed(self):
        self.assertEqual(plan(NOR, Jar([2, 1]), [1]), (1, {(2, 1): (0, 1)}))
        self.assertIs(is_plan(NOR, Jar([2, 1]), [1], 1, {(2, 1): (0, 1)}), True)
        self.assertIs(is_plan(NOR, Jar([2, 1]), [1], 1, {(2, 1): (0, 1)}, turn=2), False)

    def test_one_bean(self):
        for turn in (1, 2):
            self.assertEqual(plan(NOR, Jar([0, 1]), [1], turn=turn), (1, {}))
            self.assertEqual(plan(NOR, Jar([0, 1]), [0], turn=turn), (2, {}))
            for wanted, person in product(([0], [1], [], [0, 1]), (1, 2)):
                expected = (1 in wanted) == (person == 1)
                self.assertIs(is_plan(NOR, Jar([0, 1]), wanted, person, {}, turn=turn), expected)
                self.assertIs(is_plan(NOR, Jar([0, 1]), wanted, person, {"x": None}, turn=turn), expected)
                for value in no_dicts():
                    self.assertIs(is_plan(NOR, Jar([0, 1]), wanted, person, value, turn=turn), False)

    def test_returned_dicts_can_be_changed(self):
        plan(NOR, Jar([2, 1]), [1])[1].clear()
        self.assertEqual(plan(NOR, Jar([2, 1]), [1]), (1, {(2, 1): (0, 1)}))


def no_dicts():
    """Values that are no dicts."""
    return [value for value in no_sequences() if not isinstance(value, dict)] + [
        [], (), [((2, 1), (0, 1))], (((2, 1), (0, 1)),), [{}]]


def drawn_plans(rows, counts):
    """All dicts with a draw for each jar of a few that drawing leads to."""
    jars, level = [], [counts]
    while level:
        jars += [one for one in level if sum(one) > 1]
        level = sorted({left for one in level for draw, left in draws_and_jars(rows, one)})
    choices = [[draw for draw, left in draws_and_jars(rows, one)] for one in jars]
    for chosen in product(*choices):
        yield dict(zip(jars, chosen))


class IsPlanTest(unittest.TestCase):
    def check(self, rows, counts, wanted, value):
        for turn, person in product((1, 2), repeat=2):
            expected = wins(rows, counts, wanted, turn, person, value)
            self.assertIs(is_plan(Table(rows), Jar(counts), wanted, person, value, turn=turn), expected)

    def test_all_plans_of_small_jars(self):
        for rows in list(all_rows(2))[::2] + [mixed_rows(3, seed) for seed in range(3)]:
            for counts in ((2, 1, 0), (1, 2, 1), (2, 2, 0), (1, 1, 1)):
                counts = counts[:len(rows)]
                for number, value in enumerate(drawn_plans(rows, counts)):
                    if number < 60:
                        self.check(rows, counts, [0], value)
                        self.check(rows, counts, [1], value)

    def test_changed_plans(self):
        changes = [None, (), (0, 0), (0, 1), (1, 1), (1, 0), [0, 1], (0, 5), "0-1", (0,), (0, 0, 1), 0, Agreeable(),
                   Touchy(), (Agreeable(), 1), (0, Touchy()), (True, 1), (False, 1), (0, True), (-1, -1)]
        for rows, counts, wanted in some_games()[::41]:
            for turn in (1, 2):
                person, value = plan(Table(rows), Jar(counts), wanted, turn=turn)
                for key in list(value):
                    less = {other: value[other] for other in value if other != key}
                    self.check(rows, counts, wanted, less)
                    for change in changes:
                        new = dict(value)
                        new[key] = change
                        self.check_changed(rows, counts, wanted, turn, person, new)

    def check_changed(self, rows, counts, wanted, turn, person, value):
        """As check, but what is no tuple of two integers counts as missing."""
        plain = {key: draw for key, draw in value.items() if isinstance(draw, tuple) and len(draw) == 2
                 and all(isinstance(colour, int) and not isinstance(colour, bool) for colour in draw)}
        expected = wins(rows, counts, wanted, turn, person, plain)
        self.assertIs(is_plan(Table(rows), Jar(counts), wanted, person, value, turn=turn), expected)

    def test_other_items_are_not_looked_at(self):
        for rows, counts, wanted in some_games()[::13]:
            person, value = plan(Table(rows), Jar(counts), wanted)
            value.update({"x": Touchy(), None: 1, (9, 9): (7, 7), (1,): Touchy(), counts + (1,): None, 5: (0, 0)})
            self.assertIs(is_plan(Table(rows), Jar(counts), wanted, person, value), True)

    def test_values_that_are_no_dicts(self):
        for turn, person in product((1, 2), repeat=2):
            for value in no_dicts():
                self.assertIs(is_plan(NOR, Jar([2, 1]), [1], person, value, turn=turn), False)

    def test_other_kinds_of_dicts(self):
        self.assertIs(is_plan(NOR, Jar([2, 1]), [1], 1, OrderedDict({(2, 1): (0, 1)})), True)
        value = defaultdict(lambda: (0, 1))
        self.assertIs(is_plan(NOR, Jar([2, 1]), [1], 1, value), False)
        self.assertEqual(len(value), 0)

    def test_plans_are_not_modified(self):
        value = {(2, 1): (0, 1), "x": [1]}
        is_plan(NOR, Jar([2, 1]), [1], 1, value)
        is_plan(NOR, Jar([5, 1]), [1], 1, value)
        self.assertEqual(value, {(2, 1): (0, 1), "x": [1]})


class BestChanceTest(unittest.TestCase):
    def test_against_going_back_from_the_last_draws(self):
        for rows, counts, wanted in some_games()[::2] + limit_games():
            table, jar = Table(rows), Jar(counts)
            for turn, person in product((1, 2), repeat=2):
                expected = pair(plain_best(rows, counts, wanted, turn, person, {}))
                for given in (wanted, tuple(wanted)):
                    self.assertEqual(best_chance(table, jar, given, turn=turn, person=person), expected)
            first = pair(plain_best(rows, counts, wanted, 1, 1, {}))
            self.assertEqual(best_chance(table, jar, wanted), first)
            self.assertEqual(best_chance(table, jar, wanted, turn=2),
                             pair(plain_best(rows, counts, wanted, 2, 1, {})))
            self.assertEqual(best_chance(table, jar, wanted, person=2),
                             pair(plain_best(rows, counts, wanted, 1, 2, {})))

    def test_it_is_1_exactly_if_the_goal_can_be_forced(self):
        for rows, counts, wanted in some_games()[::3] + limit_games():
            table, jar = Table(rows), Jar(counts)
            for turn in (1, 2):
                first = winner(table, jar, wanted, turn=turn)
                for person in (1, 2):
                    found = best_chance(table, jar, wanted, turn=turn, person=person)
                    self.assertIs(found == (1, 1), first == person)

    def test_at_least_the_chance_of_drawing_at_random(self):
        for rows, counts, wanted in some_games()[::17]:
            table, jar = Table(rows), Jar(counts)
            for turn in (1, 2):
                random = Fraction(*chance_of(table, jar, wanted))
                self.assertGreaterEqual(Fraction(*best_chance(table, jar, wanted, turn=turn)), random)
                self.assertGreaterEqual(Fraction(*best_chance(table, jar, wanted, turn=turn, person=2)), 1 - random)

    def test_no_colour_and_one_bean(self):
        for turn in (1, 2):
            self.assertEqual(best_chance(NOR, Jar([2, 1]), [], turn=turn), (0, 1))
            self.assertEqual(best_chance(NOR, Jar([2, 1]), (), turn=turn, person=2), (1, 1))
            self.assertEqual(best_chance(NOR, Jar([2, 1]), (1, 0), turn=turn), (1, 1))
            self.assertEqual(best_chance(NOR, Jar([1, 0]), [0], turn=turn), (1, 1))
            self.assertEqual(best_chance(NOR, Jar([1, 0]), [0], turn=turn, person=2), (0, 1))


class ErrorsTest(unittest.TestCase):
    def test_wrong_size_comes_first(self):
        for size in (1, 3, 8):
            for count in (0, 1, BIG):
                for wanted, turn, person in (([0], 1, 1), (None, 0, 0), ([0, 1], 3, 3)):
                    for call in all_calls(NOR, Jar([count] * size), wanted, turn, person):
                        with self.assertRaises(WrongSize):
                            call()

    def test_then_the_empty_jar(self):
        for size in range(1, 9):
            for wanted, turn, person in (([0], 1, 1), (None, 0, 0)):
                for call in all_calls(Table(mixed_rows(size, 2)), Jar([0] * size), wanted, turn, person):
                    with self.assertRaises(EmptyJar):
                        call()

    def test_then_jars_that_are_not_small(self):
        for counts in jars_beyond():
            for wanted, turn, person in (([0], 1, 1), (None, 0, 0)):
                for call in all_calls(Table(mixed_rows(len(counts), 2)), Jar(counts), wanted, turn, person):
                    with self.assertRaises(LimitExceeded) as caught:
                        call()
                    self.assertEqual(caught.exception.limit, 500)

    def test_then_the_wanted_colours(self):
        for table, jar in ((NOR, Jar([2, 1])), (Table(mixed_rows(3, 1)), Jar([1, 0, 0])), (Table([[0]]), Jar([30]))):
            for wanted in no_different_colours(table.size):
                for turn, person in ((1, 1), (0, 0)):
                    for call in calls_of(table, jar, wanted, turn, person):
                        with self.assertRaises(InvalidWanted):
                            call()

    def test_then_the_turn(self):
        for turn in no_numbers(1, 2) + [1.5, "1"]:
            for jar in (Jar([2, 1]), Jar([1, 0])):
                for call in calls_of(NOR, jar, [0], turn, 1) + calls_of(NOR, jar, [0], turn, 0):
                    with self.assertRaises(InvalidTurn):
                        call()
                with self.assertRaises(InvalidTurn):
                    outcome(NOR, jar, [1, 0], turn=turn)

    def test_then_the_person(self):
        for person in no_numbers(1, 2):
            for jar in (Jar([2, 1]), Jar([1, 0])):
                for call in calls_of(NOR, jar, [0], 2, person)[3:]:
                    with self.assertRaises(InvalidNumber) as caught:
                        call()
                    self.assertIs(caught.exception.value, person)

    def test_true_and_false_are_no_persons(self):
        with self.assertRaises(InvalidTurn):
            winner(NOR, Jar([2, 1]), [0], turn=True)
        with self.assertRaises(InvalidNumber):
            best_chance(NOR, Jar([2, 1]), [0], person=True)
        self.assertEqual(len([value for value in no_integers() if value is True]), 1)

    def test_nothing_at_the_limits(self):
        for counts in limit_jars():
            table, jar = Table(rows_of(len(counts), max)), Jar(counts)
            highest = max(jar.colours())
            self.assertEqual(winner(table, jar, [highest], turn=2), 1)
            self.assertEqual(outcome(table, jar, list(range(len(counts)))), highest)
            self.assertTrue(comb(sum(counts) + len(counts), len(counts)) - 1 <= 500)

    def test_arguments_are_not_modified(self):
        wanted, order = [1, 0], [1, 0]
        for call in calls_of(NOR, Jar([2, 1]), wanted, 1):
            call()
        outcome(NOR, Jar([2, 1]), order)
        self.assertEqual((wanted, order), ([1, 0], [1, 0]))

    def test_by_name(self):
        jar = Jar([2, 1])
        self.assertEqual(winner(turn=2, wanted=[1], jar=jar, table=NOR), 2)
        self.assertEqual(good_draws(turn=1, wanted=[1], jar=jar, table=NOR), [(0, 1)])
        self.assertEqual(outcome(turn=1, order=[0, 1], jar=jar, table=NOR), 0)
        self.assertEqual(plan(turn=1, wanted=[1], jar=jar, table=NOR), (1, {(2, 1): (0, 1)}))
        self.assertIs(is_plan(turn=1, value={}, person=1, wanted=[1], jar=jar, table=NOR), False)
        self.assertEqual(best_chance(person=1, turn=2, wanted=[1], jar=jar, table=NOR), (2, 3))


if __name__ == "__main__":
    unittest.main()
