import unittest

from rowsinplace import errors
from odd_objects import BIG, NESTED

MISSING = {
    "NoRow": ("row",),
    "NoPlace": ("lst", "place"),
    "NoHandler": ("name",),
}
WRONG = {
    "BadName": ("name",),
    "BadPlace": ("place",),
    "BadSlide": ("index",),
    "NoInverse": ("slide",),
    "Twice": ("row",),
    "BadOperation": ("op",),
    "BadCall": ("argument",),
    "BadVisit": ("visit",),
    "BadLine": ("line",),
    "BadStep": ("index",),
    "BadText": ("index",),
    "BadWorld": ("world",),
    "BadNumber": ("name",),
    "BadSpot": ("spot",),
    "BadBound": ("index",),
    "BadKind": ("kind",),
    "OtherOperation": ("op",),
    "BadOrder": ("order",),
    "BadPair": ("first", "second"),
    "BadRule": ("rule",),
    "BadMend": ("mend",),
    "TooMany": ("limit",),
    "Clash": ("step", "row", "other"),
    "CallFailed": ("index", "reason"),
}
THINGS = [None, True, False, 0, 1, -BIG, "", "a", "a\nb", "x" * 400, [], ["a"], (), NESTED]


class ErrorClasses(unittest.TestCase):
    def test_the_base_classes(self):
        self.assertEqual(errors.PlaceError.__bases__, (ValueError,))
        self.assertEqual(errors.MissingError.__bases__, (LookupError,))

    def test_each_has_one_base_class_only(self):
        for table, base in ((MISSING, errors.MissingError), (WRONG, errors.PlaceError)):
            for name in table:
                self.assertEqual(getattr(errors, name).__bases__, (base,), name)

    def test_they_are_defined_in_the_module_with_their_constructors(self):
        for name in [*MISSING, *WRONG]:
            cls = getattr(errors, name)
            self.assertEqual(cls.__module__, "rowsinplace.errors")
            self.assertEqual(cls.__name__, name)
            self.assertIn("__init__", vars(cls))

    def test_there_are_no_others(self):
        listed = {"PlaceError", "MissingError", *MISSING, *WRONG}
        found = {name for name in vars(errors) if isinstance(vars(errors)[name], type)}
        self.assertEqual(found, listed)


class Attributes(unittest.TestCase):
    def each(self):
        for name, arguments in {**MISSING, **WRONG}.items():
            yield getattr(errors, name), arguments

    def test_made_by_position_of_any_objects(self):
        for cls, arguments in self.each():
            for shift in range(len(THINGS)):
                given = [THINGS[(shift + at) % len(THINGS)] for at in range(len(arguments))]
                error = cls(*given)
                for name, thing in zip(arguments, given):
                    self.assertIs(getattr(error, name), thing)
                self.assertIsInstance(str(error), str)

    def test_made_by_the_names_that_the_interface_shows(self):
        for cls, arguments in self.each():
            given = dict(zip(arguments, THINGS[3:]))
            error = cls(**given)
            self.assertEqual({name: getattr(error, name) for name in arguments}, given)

    def test_another_number_of_arguments(self):
        for cls, arguments in self.each():
            with self.assertRaises(TypeError):
                cls()
            with self.assertRaises(TypeError):
                cls(*["a"] * (len(arguments) + 1))

    def test_raised_and_caught_by_the_base(self):
        with self.assertRaises(errors.PlaceError) as caught:
            raise errors.Clash(2, "a", "b")
        self.assertEqual((caught.exception.step, caught.exception.row, caught.exception.other), (2, "a", "b"))
        with self.assertRaises(errors.MissingError) as caught:
            raise errors.NoPlace(["a"], True)
        self.assertEqual(caught.exception.lst, ["a"])
        self.assertIs(caught.exception.place, True)
