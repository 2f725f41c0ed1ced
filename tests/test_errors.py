"""[78]: the errors."""

from unittest import TestCase

from lanerules import errors
from lanerules.errors import PassError
from tests.samples import any_values

ARGUMENTS = {
    "Absent": ("car",), "BadBatch": (), "BadCount": ("index",), "BadDay": ("index",),
    "BadRow": ("error",), "BadRule": ("error",), "BadText": ("index",), "BadWish": ("index",),
    "BadWord": ("error",), "Busy": (), "Empty": (), "Impossible": (), "NoCar": ("value",),
    "NoCount": ("value",), "NoHistory": (), "NoIndex": ("index",), "NoLane": ("value",),
    "NoOrder": (), "NoPair": ("value",), "NoPreference": (), "NoRule": (),
    "NoVersion": ("version",), "NothingToUndo": (), "OtherLanes": ("count",), "OtherOrder": (),
    "PassedOver": ("lane",), "Rejected": ("index",), "TooLarge": ("limit",), "TooManyEdits": (),
}


def classes():
    return {name: getattr(errors, name) for name in ARGUMENTS}


class TestErrors(TestCase):
    def test_pass_error_is_a_value_error(self):
        self.assertEqual(PassError.__bases__, (ValueError,))

    def test_each_is_a_direct_subclass_defined_there(self):
        self.assertEqual(len(ARGUMENTS), 29)
        for name, kind in classes().items():
            with self.subTest(name):
                self.assertEqual(kind.__bases__, (PassError,))
                self.assertEqual((kind.__name__, kind.__module__), (name, "lanerules.errors"))

    def test_there_are_no_others(self):
        found = {name for name, value in vars(errors).items() if isinstance(value, type)}
        self.assertEqual(found, set(ARGUMENTS) | {"PassError"})

    def test_each_object_is_of_its_own_class_and_of_no_other(self):
        for name, kind in classes().items():
            made = kind(*[0 for _ in ARGUMENTS[name]])
            self.assertIsInstance(made, PassError)
            self.assertIsInstance(made, ValueError)
            others = [other for other in classes() if isinstance(made, classes()[other])]
            self.assertEqual(others, [name])

    def test_each_keeps_the_very_objects_that_were_passed(self):
        for name, kind in classes().items():
            for value in [*any_values(), None, 0, (1, "preference")]:
                passed = [value for _ in ARGUMENTS[name]]
                made = kind(*passed)
                self.assertEqual(sorted(vars(made)), sorted(ARGUMENTS[name]))
                for argument in ARGUMENTS[name]:
                    self.assertIs(getattr(made, argument), value)

    def test_those_with_an_argument_need_it(self):
        for name, kind in classes().items():
            if ARGUMENTS[name]:
                with self.assertRaises(TypeError):
                    kind()

    def test_each_can_be_raised_and_caught_by_its_class(self):
        for name, kind in classes().items():
            for caught in (kind, PassError, ValueError):
                with self.assertRaises(caught) as raised:
                    raise kind(*[7 for _ in ARGUMENTS[name]])
                self.assertEqual(raised.exception.__class__, kind)

    def test_each_is_shown_with_its_arguments(self):
        self.assertEqual(repr(errors.NoOrder()), "NoOrder()")
        self.assertEqual(repr(errors.TooLarge(8)), "TooLarge(8)")
        self.assertEqual(repr(errors.BadWord((0, "passing"))), "BadWord((0, 'passing'))")
