"""The errors of the interface."""

import unittest

from slantpanes import errors

PARAMETERS = {
    "TooMany": ["most"], "BadPeriod": ["thing"], "BadStripe": ["thing"], "BadCell": ["thing"],
    "BadSteps": ["thing"], "BadCount": ["thing"], "BadHeap": ["thing"], "OtherBreadth": ["thing"],
    "BadDirection": ["thing"], "BadDirections": ["thing"], "BadRow": ["thing"], "BadStripes": ["thing"],
    "BadBound": ["thing"], "BelowZero": ["stripe"], "BadLooks": ["thing"], "BadTints": ["thing"],
    "BadFloor": ["thing"], "BadPrime": ["thing"], "BadName": ["thing"], "NoName": ["name"],
    "NameTaken": ["name"], "InUse": ["name"], "NothingLeft": [], "BadPromise": ["thing"],
    "NoPromise": ["thing"], "Unkept": ["promise", "fault"], "BadChange": ["number"], "NothingToUndo": [],
    "NothingToRedo": [], "BadText": ["line"],
}
VALUES = [None, True, 0, -1, 10 ** 99, "", "a\nb", (), (1, (2,)), [], [1, [2]], {"a": ()}]


class Errors(unittest.TestCase):
    def test_each_error_has_only_the_base_class(self):
        self.assertEqual(errors.PaneError.__bases__, (Exception,))
        for name in PARAMETERS:
            self.assertEqual(getattr(errors, name).__bases__, (errors.PaneError,), name)
            self.assertEqual(getattr(errors, name).__module__, "slantpanes.errors")

    def test_parameters_by_position_are_attributes(self):
        for name, parameters in PARAMETERS.items():
            for value in VALUES:
                told = [value, "second"][:len(parameters)]
                error = getattr(errors, name)(*told)
                for parameter, worth in zip(parameters, told):
                    self.assertIs(getattr(error, parameter), worth)

    def test_parameters_by_name_are_attributes(self):
        for name, parameters in PARAMETERS.items():
            for value in VALUES:
                told = dict(zip(parameters, [value, "second"]))
                error = getattr(errors, name)(**told)
                self.assertEqual(vars(error), told)

    def test_errors_are_raised_and_caught_as_pane_errors(self):
        for name, parameters in PARAMETERS.items():
            with self.assertRaises(errors.PaneError):
                raise getattr(errors, name)(*parameters)


if __name__ == "__main__":
    unittest.main()
