"""Promise 1: the limits and the classes of errors ([4], interface)."""

import unittest

from ringshares import errors, limits
from tests.support import NAMES, NO_NAMES, Other

LIMITS = {
    "MOST_POINTS": 1000000000000000000, "MOST_FACTOR": 5, "MOST_HOSTS": 12, "MOST_MARKS": 16,
    "MOST_STEPS": 24, "MOST_FURTHER": 6, "MOST_WISHES": 6,
}

BASES = {"BadValue": ValueError, "BadName": LookupError, "NoAnswer": ArithmeticError}

WITH_ATTRIBUTE = {
    ("BadValue", "given"): (
        "InvalidText", "InvalidNumber", "InvalidSpread", "InvalidPending", "InvalidPoint", "InvalidName",
        "InvalidMarks", "InvalidStep", "InvalidMoment", "InvalidTakers", "InvalidKind", "InvalidWish",
        "InvalidIndex", "NotARing", "NotAPlan", "OtherPoints",
    ),
    ("BadValue", "index"): ("InvalidHosts", "InvalidSteps", "InvalidFurther", "InvalidWishes"),
    ("BadName", "given"): ("UnknownName",),
    ("BadName", "index"): ("InUse",),
    ("NoAnswer", "given"): ("NoRoom",),
    ("NoAnswer", "index"): ("Broken",),
}

DEEP = ((((((((("x", []),),),),),),),),)


def own_classes(error):
    """Returns the classes of the package that the error belongs to."""
    return [kind for kind in error.__class__.__mro__ if kind.__module__.startswith("ringshares")]


class Limits(unittest.TestCase):
    def test_the_seven_constants(self):
        for name, number in LIMITS.items():
            self.assertIs(type(getattr(limits, name)), int, name)
            self.assertEqual(getattr(limits, name), number, name)


class Errors(unittest.TestCase):
    def listed(self):
        for (base, attribute), names in WITH_ATTRIBUTE.items():
            for name in names:
                yield getattr(errors, base), attribute, getattr(errors, name)

    def test_base_classes_are_made_with_nothing(self):
        for name, builtin in BASES.items():
            base = getattr(errors, name)
            self.assertEqual(base.__mro__[:2], (base, builtin))
            self.assertIsInstance(base(), builtin)
            self.assertEqual(own_classes(base()), [base])

    def test_nothing_to_undo_is_made_with_nothing(self):
        error = errors.NothingToUndo()
        self.assertEqual(own_classes(error), [errors.NothingToUndo, errors.NoAnswer])
        self.assertIsInstance(error, ArithmeticError)

    def test_each_keeps_any_value_by_position_and_by_name(self):
        values = NO_NAMES + NAMES + (10 ** 39, -1, DEEP, "x" * 8000, ValueError("x"), errors.BadName())
        for _, attribute, error in self.listed():
            for value in values:
                self.assertIs(getattr(error(value), attribute), value)
                self.assertIs(getattr(error(**{attribute: value}), attribute), value)

    def test_each_has_its_own_attribute_only(self):
        for _, attribute, error in self.listed():
            self.assertEqual(vars(error(3)), {attribute: 3})

    def test_each_belongs_to_its_base_class_and_no_other(self):
        for base, _, error in self.listed():
            self.assertEqual(own_classes(error(None)), [error, base])
            self.assertEqual(error.__mro__, (error,) + base.__mro__)

    def test_each_needs_its_value_and_takes_no_more(self):
        for _, attribute, error in self.listed():
            self.assertRaises(TypeError, error)
            self.assertRaises(TypeError, error, 1, 2)
            self.assertRaises(TypeError, error, **{"index" if attribute == "given" else "given": 1})

    def test_each_is_defined_in_this_module_and_can_be_raised(self):
        value = Other()
        for base, attribute, error in self.listed():
            self.assertEqual(error.__module__, "ringshares.errors")
            with self.assertRaises(base) as caught:
                raise error(value)
            self.assertIs(getattr(caught.exception, attribute), value)

    def test_errors_are_equal_to_themselves_only_and_true(self):
        for _, _, error in self.listed():
            one = error(1)
            self.assertTrue(one)
            self.assertTrue(one == one)
            self.assertFalse(one == error(1))


if __name__ == "__main__":
    unittest.main()
