"""Points [10] and [21]: the error classes."""

import unittest

from otherfirst import errors
from otherfirst.errors import OtherError

GIVEN = """
    InvalidNodes InvalidTasks InvalidTask InvalidNode InvalidLoad InvalidLasts InvalidLine InvalidSchedule
    InvalidNumber InvalidRows InvalidLast InvalidLetter InvalidIndex InvalidRests InvalidGroup InvalidBuild
    InvalidBounds InvalidKnown InvalidEnds InvalidProfile InvalidOther InvalidPairs InvalidNexts InvalidTies
    InvalidTints InvalidClubs InvalidAir InvalidDeeds
""".split()

FURTHER = {
    "TooMany": ["count"], "NotAnEnd": ["task", "node"], "NotMinded": ["task", "node"], "NothingLeft": ["task"],
    "Barred": ["nodes"], "Stopped": ["at", "reached"], "Impossible": ["defect"], "NotComplete": ["schedule"],
    "NotLeast": ["at", "task"], "NotStuck": ["task"], "NotAsking": ["task"], "FalseLasts": ["reason"],
    "Circled": ["circle"], "NoLast": ["node"], "NeverAhead": ["way"], "NotAbove": ["task"],
    "NotThatOften": ["most"], "NeverLast": ["way"], "NoPartner": ["node"], "SharedTask": ["task"],
    "SameNode": ["node"], "NotForEver": ["node", "task"], "NoErrand": ["node", "branch"], "Unequal": ["task"],
    "NoFit": ["ring"], "NotForest": ["ring"], "NotBetween": ["node"], "NotBehind": ["node"], "NotPlain": ["task"],
    "NotTree": ["reason"], "NoDay": ["least", "most"], "NoSchedule": ["fence"], "NotRegular": ["node"],
    "Spoils": ["node", "task"], "NothingToUndo": [], "NothingToRedo": [],
}


def listed():
    return {**{name: ["given"] for name in GIVEN}, **FURTHER}


class ErrorsTest(unittest.TestCase):
    def test_other_error_is_a_value_error(self):
        self.assertEqual(OtherError.__bases__, (ValueError,))

    def test_each_class_is_a_direct_subclass(self):
        for name in listed():
            self.assertEqual(getattr(errors, name).__bases__, (OtherError,), name)

    def test_there_are_no_further_classes(self):
        found = [name for name, thing in vars(errors).items() if isinstance(thing, type)]
        self.assertEqual(sorted(found), sorted(list(listed()) + ["OtherError"]))

    def test_attributes_by_position_and_by_name_are_the_very_objects(self):
        for name, attributes in listed().items():
            values = [[name, k] for k in range(len(attributes))]
            for made in (getattr(errors, name)(*values), getattr(errors, name)(**dict(zip(attributes, values)))):
                self.assertEqual(list(vars(made)), attributes)
                for attribute, value in zip(attributes, values):
                    self.assertIs(getattr(made, attribute), value)

    def test_any_values_are_kept(self):
        for value in (None, True, 0, -1, "a", (), [], {}, {"a": [1]}, OtherError(), object()):
            for name, attributes in listed().items():
                made = getattr(errors, name)(*[value] * len(attributes))
                for attribute in attributes:
                    self.assertIs(getattr(made, attribute), value)

    def test_other_numbers_of_values_are_refused(self):
        for name, attributes in listed().items():
            if attributes:
                self.assertRaises(TypeError, getattr(errors, name))
                self.assertRaises(TypeError, getattr(errors, name), *[0] * (len(attributes) + 1))


if __name__ == "__main__":
    unittest.main()
