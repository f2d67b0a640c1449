"""The errors of the interface: names, attributes, base classes."""

import unittest

from walksback import errors

# The base class of each group, its own base class, and its classes with their attributes.
GROUPS = (
    ("WalkError", ValueError, (
        (("value",), "InvalidWord InvalidLetter InvalidLetters InvalidNames InvalidLot InvalidPlace InvalidNode "
                     "InvalidNodes InvalidTie InvalidOrder InvalidTelling InvalidRelation InvalidMatrix InvalidTable "
                     "InvalidKept InvalidPlan InvalidCut InvalidPrices InvalidPair InvalidNumber InvalidLetting "
                     "InvalidMachine InvalidMaps InvalidClaim InvalidCommand"),
        (("position",), "InvalidWords InvalidPlaces InvalidTies InvalidQuestions InvalidRows InvalidPairs"),
        (("line",), "InvalidText"),
    )),
    ("MissingError", LookupError, ((("value",), "UnknownWord UnknownTie UnknownName"),)),
    ("StateError", RuntimeError, (
        (("value",), "NotSettled Settled TakenName"),
        ((), "NoMatrices NothingToUndo"),
        (("one", "other"), "OtherNodes OtherLetters"),
        (("position",), "CommandFailed"),
    )),
    ("LimitError", ArithmeticError, ((("what", "limit"), "TooMany"),)),
)


def listed():
    """Tuples (class, its base, its attributes) of all errors but the bases."""
    told = []
    for base, _, kinds in GROUPS:
        for attributes, names in kinds:
            told += [(getattr(errors, name), getattr(errors, base), attributes) for name in names.split()]
    return told


class ErrorTest(unittest.TestCase):
    def test_bases_derive_from_errors_of_python(self):
        for name, python, _ in GROUPS:
            base = getattr(errors, name)
            self.assertEqual((python,), base.__bases__)
            self.assertIsInstance(base(), python)

    def test_each_class_has_just_the_base_in_front_of_it(self):
        for error, base, _ in listed():
            self.assertEqual((base,), error.__bases__, error)

    def test_there_are_all_classes_and_no_others(self):
        names = {error.__name__ for error, _, _ in listed()} | {name for name, _, _ in GROUPS}
        self.assertEqual(48, len(names))
        self.assertEqual(names, {name for name in vars(errors) if not name.startswith("_")})

    def test_no_class_is_of_another_listed_class(self):
        classes = [error for error, _, _ in listed()]
        for error, base, attributes in listed():
            made = error(*attributes)
            of = [other for other in classes if isinstance(made, other)]
            self.assertEqual([error], of)
            self.assertEqual([base], [getattr(errors, name) for name, _, _ in GROUPS
                                      if isinstance(made, getattr(errors, name))])

    def test_attributes_are_the_very_values_by_position_and_by_name(self):
        for error, _, attributes in listed():
            for value in (None, True, 0, -5, "", "text", [1, [2]], {"a": []}, (), object(), ValueError):
                values = [[value, number] for number, _ in enumerate(attributes)]
                by_position = error(*values)
                by_name = error(**dict(zip(attributes, values)))
                for name, given in zip(attributes, values):
                    self.assertIs(given, getattr(by_position, name))
                    self.assertIs(given, getattr(by_name, name))
            for value in (None, True, "", 3):
                made = error(*[value for _ in attributes])
                for name in attributes:
                    self.assertIs(value, getattr(made, name))

    def test_the_constructors_take_just_the_attributes(self):
        for error, _, attributes in listed():
            if attributes:
                self.assertRaises(TypeError, error)
                self.assertRaises(TypeError, error, *attributes, "more")
                self.assertRaises(TypeError, error, *attributes, more=1)

    def test_each_can_be_raised_and_caught(self):
        for error, base, attributes in listed():
            for kind in (error, base, *base.__bases__):
                with self.assertRaises(kind):
                    raise error(*attributes)


if __name__ == "__main__":
    unittest.main()
