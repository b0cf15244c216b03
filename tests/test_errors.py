import copy
import unittest

from beanjars import errors
from samples import Agreeable, Touchy

FIELDS = {
    ValueError: {
        "InvalidTable": "place", "InvalidRules": "place", "InvalidJar": None, "InvalidColour": "value",
        "InvalidDraw": "value", "InvalidWay": "index", "InvalidNumber": "value", "InvalidRenaming": None,
        "InvalidUser": "value", "WrongSize": None, "ParseError": "index", "InvalidCommand": None,
        "InvalidShape": None, "InvalidWanted": None, "InvalidTurn": None, "InvalidOrder": None,
        "InvalidObservation": "index",
    },
    LookupError: {"EmptyJar": None, "NotEnough": "colour", "NoWay": None},
    RuntimeError: {"Disputed": "triple", "NothingToUndo": None, "NoJar": None},
    OverflowError: {"LimitExceeded": "limit"},
}
ALL = [(base, name, field) for base, names in FIELDS.items() for name, field in names.items()]


class ErrorClassesTest(unittest.TestCase):
    def test_each_has_the_documented_base(self):
        for base, name, _ in ALL:
            self.assertEqual(getattr(errors, name).__bases__, (base,), name)

    def test_no_other_error_classes(self):
        defined = [name for name, value in vars(errors).items() if isinstance(value, type)]
        self.assertEqual(sorted(defined), sorted([name for _, name, _ in ALL]))

    def test_each_is_of_its_own_class_alone(self):
        for _, name, field in ALL:
            kind = getattr(errors, name)
            made = kind(0) if field else kind()
            same = [other for _, other, _ in ALL if isinstance(made, getattr(errors, other))]
            self.assertEqual(same, [name])

    def test_fields_keep_the_value_unchanged(self):
        for value in [None, True, 0, "x", [1], {}, (1, (2,)), object(), Touchy(), Agreeable(), 10 ** 70]:
            for _, name, field in ALL:
                if field:
                    kind = getattr(errors, name)
                    self.assertIs(getattr(kind(value), field), value)
                    self.assertIs(getattr(kind(**{field: value}), field), value)

    def test_a_parameter_is_needed_where_there_is_a_field(self):
        for _, name, field in ALL:
            if field:
                with self.assertRaises(TypeError):
                    getattr(errors, name)()

    def test_errors_can_be_raised_and_caught_by_their_base(self):
        for base, name, field in ALL:
            kind = getattr(errors, name)
            with self.assertRaises(base):
                raise kind(3) if field else kind()

    def test_errors_can_be_copied(self):
        for _, name, field in ALL:
            kind = getattr(errors, name)
            made = copy.copy(kind(3) if field else kind())
            self.assertIsInstance(made, kind)
            if field:
                self.assertEqual(getattr(made, field), 3)


if __name__ == "__main__":
    unittest.main()
