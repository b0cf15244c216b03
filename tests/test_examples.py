import doctest
import unittest
from pathlib import Path

TABLES = """
>>> from beanjars.tables import Table
>>> table = Table([[0, 1], [1, 0]])
>>> (table[0, 1], table.fold([1, 1, 1]), 2 in table, table.renamed([1, 0]).rows())
(1, 1, False, [[1, 0], [0, 1]])
"""

JARS = """
>>> from beanjars.jars import Jar, last_of
>>> from beanjars.tables import Table
>>> jar = Jar([1, 1]) + Jar([0, 2])
>>> (jar.total, jar.draws(), last_of(Table([[0, 1], [1, 0]]), jar, [(1, 1), (0, 0), (0, 1)]))
(4, [(0, 1), (1, 1)], 1)
"""

GROUPS = """
>>> from beanjars.groups import groups, reason
>>> from beanjars.tables import Table
>>> table = Table([[1, 0, 0], [0, 0, 0], [0, 0, 2]])
>>> groups(table)
[[0, 1], [2]]
"""

POSSIBLE = """
>>> from beanjars.jars import Jar
>>> from beanjars.possible import class_sets, last_beans, way_to
>>> from beanjars.tables import Table
>>> table = Table([[1, 0], [0, 0]])
>>> (last_beans(table, Jar([2, 1])), way_to(table, Jar([2, 1]), 1))
([0, 1], [(0, 1), (0, 0)])
>>> class_sets(Table([[0, 1], [1, 1]]), [(1, 1), (1, 1)])
{(0, 1): [1], (1, 0): [0], (1, 1): [1]}
"""

SINGLE = """
>>> from beanjars.single import beans_of_many, period, power_sets
>>> from beanjars.tables import Table
>>> table = Table([[1, 0], [0, 0]])
>>> (power_sets(table, 0, 4), period(table, 0), beans_of_many(table, 0, 10 ** 30))
([[0], [1], [0], [0, 1]], (4, 1), [0, 1])
"""

CHANCES = """
>>> from beanjars.chances import after_draws, chances
>>> from beanjars.jars import Jar
>>> from beanjars.tables import Table
>>> table = Table([[1, 0], [0, 0]])
>>> (chances(table, Jar([2, 1])), after_draws(table, Jar([2, 1]), 1))
([(1, 3), (2, 3)], [((0, 2), (1, 3)), ((2, 0), (2, 3))])
"""

GAMES = """
>>> from beanjars.games import good_draws, outcome, plan, winner
>>> from beanjars.jars import Jar
>>> from beanjars.tables import Table
>>> table, jar = Table([[1, 0], [0, 0]]), Jar([2, 1])
>>> (winner(table, jar, [1]), good_draws(table, jar, [1]), winner(table, jar, [1], turn=2), outcome(table, jar, [0, 1]))
(1, [(0, 1)], 2, 0)
"""

COMPLETIONS = """
>>> from beanjars.completions import completions, repairs
>>> from beanjars.tables import Table
>>> [table.rows() for table in completions([[0, None], [None, 1]])]
[[[0, 0], [0, 1]], [[0, 1], [1, 1]]]
>>> [table.rows() for table in repairs(Table([[1, 0], [0, 0]]), 3)[1]]
[[[0, 0], [0, 0]], [[1, 0], [0, 1]]]
"""

OBSERVATIONS = """
>>> from beanjars.observations import fitting, next_jar
>>> rows = [[0, None], [None, 1]]
>>> ([table.rows() for table in fitting(rows, [((1, 1), 1)])], next_jar(rows, [], 3)[0].counts())
([[[0, 1], [1, 1]]], [1, 1])
"""


class ExamplesTest(unittest.TestCase):
    def check(self, name, text):
        test = doctest.DocTestParser().get_doctest(text, {}, name, name, 0)
        self.assertTrue(test.examples)
        results = doctest.DocTestRunner().run(test)
        self.assertEqual(results.failed, 0)

    def test_examples_of_the_document(self):
        self.check("tables", TABLES)
        self.check("jars", JARS)
        self.check("groups", GROUPS)
        self.check("possible", POSSIBLE)
        self.check("single", SINGLE)
        self.check("chances", CHANCES)
        self.check("games", GAMES)
        self.check("completions", COMPLETIONS)
        self.check("observations", OBSERVATIONS)

    def test_examples_of_the_readme(self):
        readme = Path(__file__).resolve().parent.parent / "README.md"
        self.check("README.md", readme.read_text(encoding="utf-8").replace("```", ""))


if __name__ == "__main__":
    unittest.main()
