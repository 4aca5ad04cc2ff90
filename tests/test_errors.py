"""Points 11, 9 and 8: the exception classes, their bases and their fields."""

import unittest

from anytempo import errors
from anytempo.amounts import Amount
from values import Checks, amounts, any_values, integers, strings

BASES = {"CueError": ValueError, "MissingError": KeyError, "StateError": LookupError}
FIELDS = {
    "CueError": {
        "InvalidInteger": "value", "InvalidAmount": "value", "InvalidPart": "value", "InvalidName": "value",
        "InvalidUnit": "value", "InvalidWord": "value", "InvalidCue": "value", "Duplicate": "label",
        "InvalidSheet": "value", "InvalidMap": "value", "InvalidPoint": "value", "Falling": "index",
        "InvalidFact": "value", "InvalidOrder": "value", "InvalidClip": "value", "Turned": "label",
        "InvalidString": "value", "InvalidLine": "index", "InvalidCommand": "value",
    },
    "MissingError": {"UnknownCue": "label", "UnknownFact": "index"},
    "StateError": {"TooMany": "most", "NotPossible": "indices", "HasChildren": "label", "NoShift": "label"},
}


def listed():
    """Each class with one field, with its base and the name of its field."""
    return [(getattr(errors, name), getattr(errors, base), field)
            for base, names in FIELDS.items() for name, field in names.items()]


def package_classes():
    return [item for item in vars(errors).values() if isinstance(item, type)]


class Bases(Checks, unittest.TestCase):
    def test_bases_stand_directly_below_builtin_classes(self):
        for name, builtin in BASES.items():
            self.assertEqual(getattr(errors, name).__bases__, (builtin,))

    def test_bases_take_one_string(self):
        for name, builtin in BASES.items():
            base = getattr(errors, name)
            self.assertEqual(base("a word").args, ("a word",))
            for kind in [base, builtin]:
                with self.assertRaises(kind):
                    raise base("a word")

    def test_no_base_is_under_another(self):
        for name in BASES:
            for other in BASES:
                if name != other:
                    self.assertFalse(issubclass(getattr(errors, name), getattr(errors, other)))


class Classes(Checks, unittest.TestCase):
    def test_every_class_stands_directly_under_its_base_and_no_other(self):
        for kind, base, _ in listed():
            self.assertEqual(kind.__bases__, (base,), kind)
            above = [item for item in package_classes() if issubclass(kind, item)]
            self.assertCountEqual(above, [kind, base], kind)

    def test_there_are_no_other_classes(self):
        names = [*BASES, "NothingToUndo"]
        for below in FIELDS.values():
            names = names + list(below)
        self.assertCountEqual([item.__name__ for item in package_classes()], names)

    def test_fields_hold_the_very_object_of_any_kind(self):
        values = any_values() + strings() + integers() + amounts() + [Amount(1, 2), Amount, 10 ** 5000]
        for kind, _, field in listed():
            for value in values:
                self.assertIs(getattr(kind(value), field), value, kind)
                self.assertIs(getattr(kind(**{field: value}), field), value, kind)

    def test_fields_are_not_copied_and_not_changed(self):
        for kind, _, field in listed():
            value = [1, {"a": [2]}]
            inner = value[1]
            error = kind(value)
            self.assertIs(getattr(error, field)[1], inner)
            self.assertEqual(value, [1, {"a": [2]}])

    def test_objects_are_apart_from_each_other(self):
        for kind, _, field in listed():
            one, other = kind("a"), kind("b")
            self.assertEqual([getattr(one, field), getattr(other, field)], ["a", "b"])

    def test_there_is_just_one_field(self):
        for kind, _, field in listed():
            self.assertEqual(list(vars(kind("a"))), [field])
            with self.assertRaises(TypeError):
                kind()
            with self.assertRaises(TypeError):
                kind("a", "b")

    def test_caught_by_the_class_the_base_and_the_builtin_class(self):
        for kind, base, field in listed():
            for caught in [kind, base, BASES[base.__name__]]:
                value = ["x"]
                with self.assertRaises(caught) as told:
                    raise kind(value)
                self.assertIs(getattr(told.exception, field), value)

    def test_not_caught_by_other_bases(self):
        for kind, base, _ in listed():
            for name in BASES:
                self.assertEqual(issubclass(kind, getattr(errors, name)), name == base.__name__)
        self.assertFalse(issubclass(errors.TooMany, (KeyError, ValueError)))

    def test_messages_can_be_read_whatever_the_field(self):
        for kind, _, _ in listed():
            self.assertIsInstance(str(kind(10 ** 5000)), str)
            self.assertIsInstance(repr(kind([Amount(1)])), str)


class NothingToUndo(Checks, unittest.TestCase):
    def test_it_has_no_field(self):
        self.assertEqual(vars(errors.NothingToUndo()), {})
        with self.assertRaises(TypeError):
            errors.NothingToUndo("a")

    def test_its_place(self):
        self.assertEqual(errors.NothingToUndo.__bases__, (errors.StateError,))
        for kind in [errors.NothingToUndo, errors.StateError, LookupError]:
            with self.assertRaises(kind):
                raise errors.NothingToUndo()
        self.assertFalse(issubclass(errors.NothingToUndo, (errors.CueError, errors.MissingError)))


if __name__ == "__main__":
    unittest.main()
