import unittest

from sparetrees import errors
from sparetrees.nets import Net
from tests.samples import odd_things

PLAIN = (
    "NoNet NoLot NoSide NoNumber NoPlace NoGrown NoTree NoRoots NoParts NoWidths NoWeb NoParting "
    "NoSpanners NotParted NoTie NoPrices NoPrime NoFrame NoHeard NoPacking NoPlan NoLosses NoFrames "
    "Unlike NoLink NoPair NoLine NoLines").split()
WITH_FIELD = {
    "BadNet": "part", "BadWeb": "part", "Barred": "side", "TooMany": "most",
    "Crossed": "parting", "Crowded": "lot", "Resting": "left",
}


class ErrorsTest(unittest.TestCase):

    def test_the_first_class(self):
        self.assertEqual(errors.TreeError.__bases__, (ValueError,))

    def test_each_class_stands_directly_below_the_first(self):
        for name in PLAIN + list(WITH_FIELD):
            with self.subTest(name):
                self.assertEqual(getattr(errors, name).__bases__, (errors.TreeError,))
                self.assertEqual(getattr(errors, name).__module__, "sparetrees.errors")

    def test_no_class_is_beneath_another_one(self):
        classes = [getattr(errors, name) for name in PLAIN + list(WITH_FIELD)]
        self.assertEqual(len(set(classes)), 35)
        for one in classes:
            for other in classes:
                self.assertEqual(issubclass(one, other), one is other)

    def test_there_are_no_further_classes(self):
        found = [name for name, thing in vars(errors).items() if isinstance(thing, type)]
        self.assertEqual(sorted(found), sorted(PLAIN + list(WITH_FIELD) + ["TreeError"]))

    def test_without_fields(self):
        for name in PLAIN:
            error = getattr(errors, name)()
            self.assertEqual(vars(error), {})
            with self.assertRaises(ValueError):
                raise error

    def test_fields_hold_what_was_passed(self):
        things = odd_things() + [0, 7, (1, 2), Net(2, 0, ()), errors.NoLot(), ((0,), (1, 2)), 0.5, {1}]
        for name, field in WITH_FIELD.items():
            for thing in things:
                error = getattr(errors, name)(thing)
                self.assertIs(getattr(error, field), thing)
                self.assertEqual(list(vars(error)), [field])

    def test_fields_are_needed(self):
        for name in WITH_FIELD:
            with self.assertRaises(TypeError):
                getattr(errors, name)()
            with self.assertRaises(TypeError):
                getattr(errors, name)(1, 2)

    def test_equal_to_itself_alone(self):
        for name in PLAIN:
            error = getattr(errors, name)()
            self.assertTrue(error == error)
            self.assertFalse(error == getattr(errors, name)())
        self.assertFalse(errors.BadNet("many") == errors.BadNet("many"))
        self.assertTrue(errors.Barred((1,)) != errors.Barred((1,)))


if __name__ == "__main__":
    unittest.main()
