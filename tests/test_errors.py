"""The refusals of the interface, point [3]: their classes and their fields."""

import inspect
import unittest

from apartguards import errors
from apartguards.errors import GuardError

FIELDS = {
    "NoTree": ("at",),
    "NoRoom": ("room",),
    "NoSetting": ("at",),
    "NoSlide": ("at",),
    "NoPaper": ("at",),
    "Locked": ("lock",),
    "Unlike": ("many", "more"),
    "TooMany": ("many",),
    "NoLane": ("room",),
}


class Errors(unittest.TestCase):
    def test_these_classes_and_no_others(self):
        told = {name for name, thing in vars(errors).items() if inspect.isclass(thing)}
        self.assertEqual(told, {"GuardError", *FIELDS})

    def test_guard_error_stands_straight_under_value_error(self):
        self.assertEqual(GuardError.__bases__, (ValueError,))
        self.assertIsInstance(GuardError(), ValueError)

    def test_each_stands_straight_under_guard_error(self):
        for name in FIELDS:
            kind = getattr(errors, name)
            self.assertEqual(kind.__bases__, (GuardError,), name)
            self.assertEqual(kind.__module__, "apartguards.errors", name)
            self.assertEqual(kind.__name__, name)

    def test_parameters_have_the_names_of_the_fields(self):
        for name, fields in FIELDS.items():
            parameters = inspect.signature(getattr(errors, name)).parameters.values()
            self.assertEqual(tuple(one.name for one in parameters), fields, name)
            for one in parameters:
                self.assertEqual((one.kind, one.default), (one.POSITIONAL_OR_KEYWORD, one.empty), name)

    def test_fields_are_kept_as_they_are(self):
        things = (None, -1, 0, 3, True, "room", [1, [2]], {"a": [1]}, (1, 2), object(), 10**5000, GuardError)
        for name, fields in FIELDS.items():
            kind = getattr(errors, name)
            for thing in things:
                made = [kind(*[thing for _ in fields]), kind(**{field: thing for field in fields})]
                for one in made:
                    for field in fields:
                        self.assertIs(getattr(one, field), thing, name)

    def test_two_fields_are_told_apart(self):
        for made in (errors.Unlike(1, 2), errors.Unlike(1, more=2), errors.Unlike(more=2, many=1)):
            self.assertEqual((made.many, made.more), (1, 2))

    def test_each_object_has_its_own_fields(self):
        for name, fields in FIELDS.items():
            kind = getattr(errors, name)
            first, second = kind(*range(len(fields))), kind(*range(7, 7 + len(fields)))
            self.assertEqual([getattr(first, field) for field in fields], list(range(len(fields))), name)
            self.assertEqual([getattr(second, field) for field in fields], list(range(7, 7 + len(fields))), name)

    def test_they_can_be_raised_and_caught_as_value_errors(self):
        for name, fields in FIELDS.items():
            kind = getattr(errors, name)
            with self.assertRaises(ValueError) as caught:
                raise kind(*fields)
            self.assertIs(type(caught.exception), kind)


if __name__ == "__main__":
    unittest.main()
