"""[0.3] and the interface of eyeorder/errors.py."""

import unittest

from eyeorder import errors
from tests.promises import ODD, PromiseCase

OF_A_THING = [
    "BadPlace", "BadLine", "BadPlan", "BadOrder", "BadTree", "BadEye", "BadPieces", "BadDirection",
    "BadCamera", "BadNumber", "BadBox", "BadCell", "BadChain", "BadWall", "BadName",
]
PARAMETERS = {**{name: "thing" for name in OF_A_THING}, "BadText": "line"}
CLASSES = {name: getattr(errors, name) for name in PARAMETERS}


class ErrorClasses(PromiseCase):
    def test_bases(self):
        self.assertEqual(errors.EyeError.__bases__, (Exception,))
        for name, error in CLASSES.items():
            self.assertEqual(error.__bases__, (errors.EyeError,), name)

    def test_defined_under_their_names_in_this_file(self):
        for name in ["EyeError", *CLASSES]:
            self.assertEqual(getattr(errors, name).__module__, "eyeorder.errors")
            self.assertEqual(getattr(errors, name).__name__, name)

    def test_parameter_by_position_and_by_name(self):
        for name, error in CLASSES.items():
            for value in ODD:
                with self.subTest(name=name, value=value):
                    self.assert_same(getattr(error(value), PARAMETERS[name]), value)
                    self.assert_same(getattr(error(**{PARAMETERS[name]: value}), PARAMETERS[name]), value)

    def test_no_parameter_is_changed(self):
        for name, error in CLASSES.items():
            value = [1, {"a": [2, True]}, (3, [])]
            error(value)
            self.assert_same(value, [1, {"a": [2, True]}, (3, [])])

    def test_each_object_has_its_own_attribute(self):
        for name, error in CLASSES.items():
            one, other = error("one"), error("other")
            self.assertEqual(getattr(one, PARAMETERS[name]), "one")
            self.assertEqual(getattr(other, PARAMETERS[name]), "other")

    def test_caught_by_its_own_class_and_as_eye_error(self):
        for error in CLASSES.values():
            for value in (5, True, "a", None, (1,), [1], {"a": 1}):
                for net in (error, errors.EyeError):
                    with self.assertRaises(net):
                        raise error(value)

    def test_caught_by_no_other_class(self):
        for name, error in CLASSES.items():
            for other_name, other in CLASSES.items():
                self.assertEqual(isinstance(error(1), other), name == other_name)
            self.assertNotIsInstance(error(1), (ValueError, TypeError, LookupError, ArithmeticError))


if __name__ == "__main__":
    unittest.main()
