"""The names, parameters and kinds of everything that the document's interface lists."""

import importlib
import inspect
import unittest

from beanjars import chances, checks, completions, games, groups, jars, observations, open_rules, possible, products, \
    single, text_format
from beanjars.console import Console
from beanjars.errors import InvalidTurn
from beanjars.jars import Jar
from beanjars.sessions import Session
from beanjars.tables import Table

FUNCTIONS = {
    "jars": "after(table, jar, draw); played(table, jar, way); last_of(table, jar, way)",
    "checks": "first_dispute(table); passes(table); dispute(table); is_dispute(table, value)",
    "groups": "groups(table); quotient(table); reason(table, start, end); is_reason(table, start, end, value)",
    "products": "last_bean(table, jar); last_group(table, jar); powers(table, colour); count_jars(table, total)",
    "open_rules": "ends(rules, jar); stuck_ends(rules, jar); way_to(rules, jar, goal)",
    "possible": "last_beans(table, jar); way_to(table, jar, colour); class_of(shape, jar); class_sets(table, shape);"
                " is_bound(table, shape, value); exclusion(table, jar, colour, *, shape=None);"
                " is_exclusion(table, jar, colour, value)",
    "single": "power_sets(table, colour, many); period(table, colour, *, most=60);"
              " beans_of_many(table, colour, count, *, most=60); power_table(table, colour, *, most=60);"
              " is_power_table(table, colour, value); count_leading(table, colour, wanted, high, *, most=60);"
              " nth_leading(table, colour, wanted, number, *, most=60);"
              " first_difference(table, other, colour, *, most=60)",
    "chances": "chances(table, jar); chance_of(table, jar, wanted); count_ways(table, jar);"
               " after_draws(table, jar, many); chance_of_way(table, jar, way)",
    "games": "winner(table, jar, wanted, *, turn=1); good_draws(table, jar, wanted, *, turn=1);"
             " outcome(table, jar, order, *, turn=1); plan(table, jar, wanted, *, turn=1);"
             " is_plan(table, jar, wanted, person, value, *, turn=1);"
             " best_chance(table, jar, wanted, *, turn=1, person=1)",
    "completions": "completions(rows); open_choices(rows); repairs(table, most); least_renaming(table);"
                   " symmetries(table); renaming_between(first, second); tables_up_to_renaming(size)",
    "observations": "fitting(rows, observations, *, passing=False); conflict(rows, observations, *, passing=False);"
                    " next_jar(rows, observations, most, *, passing=False)",
    "text_format": "format_jar(jar); format_table(table); format_way(way); parse_jar(text); parse_table(text);"
                   " parse_way(text)",
}
CLASSES = {
    "tables": {"Table": "Table(rows); rows(); fold(colours); renamed(names)"},
    "jars": {"Jar": "Jar(counts); of_beans(size, beans); counts(); colours(); draws(); can_draw(value);"
                    " renamed(names)"},
    "open_rules": {"OpenRules": "OpenRules(rows); rows(); draws(jar); after(jar, draw)"},
    "sessions": {"Session": "Session(table, jar); draw(user, draw); add(user, jar); undo(); redo(); history();"
                            " numbers()"},
    "console": {"Console": "Console(); execute(command)"},
}
SIGNS = {
    ("tables", "Table"): ["__len__", "__getitem__", "__contains__", "__eq__"],
    ("jars", "Jar"): ["__getitem__", "__contains__", "__bool__", "__eq__", "__add__", "__sub__", "__mul__"],
    ("open_rules", "OpenRules"): ["__eq__"],
    ("sessions", "Session"): ["__len__"],
}
PROPERTIES = {("tables", "Table"): ["size"], ("jars", "Jar"): ["size", "total"], ("open_rules", "OpenRules"): ["size"],
              ("sessions", "Session"): ["table", "jar", "moves"]}
NOR = Table([[1, 0], [0, 0]])
SMALL = Jar([2, 1])


def wanted_signatures(text):
    """The name and the parameters of each function in a text of the interface."""
    for part in text.split(";"):
        name = part.strip().partition("(")[0]
        made = {}
        exec(f"def {part.strip()}: pass", made)
        yield name, list(inspect.signature(made[name]).parameters.values())


def module_of(name):
    return importlib.import_module("beanjars." + name)


class InterfaceTest(unittest.TestCase):
    def check_parameters(self, found, wanted, name):
        self.assertEqual([(one.name, one.kind, one.default) for one in found],
                         [(one.name, one.kind, one.default) for one in wanted], name)
        for one, other in zip(found, wanted):
            self.assertIs(one.default.__class__, other.default.__class__, name)

    def test_functions(self):
        for file, text in FUNCTIONS.items():
            for name, wanted in wanted_signatures(text):
                function = vars(module_of(file))[name]
                self.assertTrue(inspect.isfunction(function))
                self.assertEqual(function.__module__, "beanjars." + file)
                self.check_parameters(inspect.signature(function).parameters.values(), wanted, name)

    def test_classes_and_methods(self):
        for file, classes in CLASSES.items():
            for kind, text in classes.items():
                one = vars(module_of(file))[kind]
                self.assertEqual(one.__module__, "beanjars." + file)
                for name, wanted in wanted_signatures(text):
                    if name == kind:
                        self.check_parameters(inspect.signature(one).parameters.values(), wanted, name)
                    elif name == "of_beans":
                        self.assertIsInstance(vars(one)[name], classmethod)
                        self.check_parameters(inspect.signature(one.of_beans).parameters.values(), wanted, name)
                    else:
                        self.assertTrue(inspect.isfunction(vars(one)[name]), name)
                        found = list(inspect.signature(vars(one)[name]).parameters.values())
                        self.check_parameters(found[1:], wanted, name)

    def test_signs_and_properties_are_in_the_class_itself(self):
        for (file, kind), names in SIGNS.items():
            for name in names:
                self.assertIn(name, vars(vars(module_of(file))[kind]))
        for (file, kind), names in PROPERTIES.items():
            for name in names:
                self.assertIsInstance(vars(vars(module_of(file))[kind])[name], property)

    def test_parameters_after_a_star_are_keyword_only(self):
        for call in (lambda: possible.exclusion(NOR, SMALL, 0, None), lambda: single.period(NOR, 0, 60),
                     lambda: single.beans_of_many(NOR, 0, 1, 60), lambda: single.power_table(NOR, 0, 60),
                     lambda: single.count_leading(NOR, 0, 0, 1, 60), lambda: single.nth_leading(NOR, 0, 0, 1, 60),
                     lambda: single.first_difference(NOR, NOR, 0, 60), lambda: games.winner(NOR, SMALL, [0], 1),
                     lambda: games.good_draws(NOR, SMALL, [0], 1), lambda: games.outcome(NOR, SMALL, [0, 1], 1),
                     lambda: games.plan(NOR, SMALL, [0], 1), lambda: games.is_plan(NOR, SMALL, [0], 1, {}, 1),
                     lambda: games.best_chance(NOR, SMALL, [0], 1), lambda: observations.fitting([[0]], [], False),
                     lambda: observations.conflict([[0]], [], False),
                     lambda: observations.next_jar([[0]], [], 2, False)):
            with self.assertRaises(TypeError):
                call()


class KeywordsTest(unittest.TestCase):
    """Each function is called by names, in the reverse of the order of its parameters."""

    def test_older_modules(self):
        rules = open_rules.OpenRules(rows=[[None, 0], [0, "stop"]])
        self.assertEqual(jars.after(draw=(0, 1), jar=SMALL, table=NOR), Jar([2, 0]))
        self.assertEqual(len(jars.played(way=[(0, 1), (0, 0)], jar=SMALL, table=NOR)), 3)
        self.assertEqual(jars.last_of(way=[(0, 1), (0, 0)], jar=SMALL, table=NOR), 1)
        self.assertEqual(Jar.of_beans(beans=[1], size=2), Jar(counts=[0, 1]))
        self.assertIs(checks.is_dispute(value=checks.dispute(table=NOR), table=NOR), True)
        self.assertEqual((checks.first_dispute(table=NOR), checks.passes(table=NOR)), ((0, 0, 1), False))
        steps = groups.reason(end=1, start=0, table=NOR)
        self.assertIs(groups.is_reason(value=steps, end=1, start=0, table=NOR), True)
        self.assertEqual((groups.groups(table=NOR), groups.quotient(table=NOR)), ([[0, 1]], Table([[0]])))
        self.assertEqual(products.last_group(jar=SMALL, table=NOR), [0, 1])
        self.assertEqual(products.last_bean(jar=Jar([3]), table=Table([[0]])), 0)
        self.assertEqual(products.powers(colour=0, table=Table([[0]])), ([0], 1))
        self.assertEqual(products.count_jars(total=4, table=Table([[0]])), [1])
        self.assertEqual(open_rules.ends(jar=SMALL, rules=rules), [(0, 0), (0, 1)])
        self.assertEqual(open_rules.stuck_ends(jar=SMALL, rules=rules), [])
        self.assertEqual(open_rules.way_to(goal=Jar([0, 1]), jar=SMALL, rules=rules), [(0, 0)])
        self.assertEqual(rules.after(draw=(0, 0), jar=SMALL), Jar([0, 1]))
        self.assertEqual(rules.draws(jar=SMALL), [(0, 0), (0, 1)])

    def test_possible(self):
        shape = [(1, 1), (1, 1)]
        self.assertEqual(possible.last_beans(jar=SMALL, table=NOR), [0, 1])
        self.assertEqual(possible.way_to(colour=1, jar=SMALL, table=NOR), [(0, 1), (0, 0)])
        self.assertEqual(possible.class_of(jar=SMALL, shape=shape), (1, 1))
        bound = possible.class_sets(shape=shape, table=NOR)
        self.assertIs(possible.is_bound(value=bound, shape=shape, table=NOR), True)
        self.assertIsNone(possible.exclusion(shape=None, colour=1, jar=SMALL, table=NOR))
        found = possible.exclusion(colour=1, jar=Jar([1, 0]), table=NOR)
        self.assertIs(possible.is_exclusion(value=found, colour=1, jar=Jar([1, 0]), table=NOR), True)

    def test_newer_modules(self):
        self.assertEqual(single.period(most=60, colour=0, table=NOR), (4, 1))
        self.assertEqual(chances.chance_of(wanted=[1], jar=SMALL, table=NOR), (2, 3))
        self.assertIs(games.is_plan(turn=1, value={(2, 1): (0, 1)}, person=1, wanted=[1], jar=SMALL, table=NOR), True)
        with self.assertRaises(InvalidTurn):
            games.winner(turn=3, wanted=[1], jar=SMALL, table=NOR)
        self.assertIsNone(completions.repairs(most=0, table=NOR))
        self.assertIsNone(observations.next_jar(passing=True, most=2, observations=[], rows=[[0]]))
        self.assertEqual(text_format.parse_way(text=text_format.format_way(way=[(0, 1)])), [(0, 1)])

    def test_methods(self):
        self.assertEqual(NOR.fold(colours=[0, 0]), 1)
        self.assertEqual(NOR.renamed(names=[1, 0]), Table(rows=[[1, 1], [1, 0]]))
        self.assertIs(SMALL.can_draw(value=(0, 1)), True)
        self.assertEqual(SMALL.renamed(names=[1, 0]), Jar([1, 2]))
        session = Session(jar=SMALL, table=NOR)
        session.draw(draw=(0, 0), user="bob")
        session.add(jar=SMALL, user="bob")
        self.assertEqual(session.jar, Jar([2, 3]))
        self.assertEqual(Console().execute(command="check"), "passes")


if __name__ == "__main__":
    unittest.main()
