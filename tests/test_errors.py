import unittest

from tinkerhall import errors

NAMES = {
    "BadSigns": ("signs",), "BadName": ("name",), "BadKind": ("name",), "BadLine": ("line", "word"),
    "BadPlan": ("word",), "BadPlace": ("number",), "BadFilling": ("number",), "BadBlock": ("word",),
    "BadRow": ("step",), "BadSights": ("number",), "BadHouse": ("word",), "BadEntry": ("number",),
    "BadClaim": ("claim",), "BadLimit": ("limit",), "BadManual": ("word",), "BadStatement": ("chapter",),
    "BadCase": ("word",), "BadTest": ("name",), "BadSign": ("number",), "BadMenu": ("word",), "BadGoal": ("goal",),
    "BadTerms": ("number",), "TooMany": ("word",), "TooLong": ("number",), "TooHeavy": ("number",),
    "Twice": ("name",), "Unknown": ("name",), "Unfit": ("name",), "Unlike": ("word",), "Ring": ("name",),
    "Stray": ("chapter",), "Flees": ("number",), "NotThere": ("part",), "NoBench": ("place",), "Away": ("machine",),
    "Here": ("machine",), "NoMoment": ("moment",), "NoNews": ("number",), "NoWorld": ("moment",),
    "NoPart": ("part",), "NoManual": ("number",), "Torn": ("line",),
}


class ErrorsTest(unittest.TestCase):
    def test_all_are_directly_under_the_base(self):
        for name in NAMES:
            self.assertEqual(getattr(errors, name).__bases__, (errors.TinkerError,), name)
        self.assertEqual(errors.TinkerError.__bases__, (ValueError,))

    def test_they_keep_what_they_are_made_with(self):
        for name, told in NAMES.items():
            things = [["any", {}], -1][:len(told)]
            error = getattr(errors, name)(*things)
            for attribute, thing in zip(told, things):
                self.assertIs(getattr(error, attribute), thing, name)

    def test_they_take_their_arguments_by_name(self):
        for name, told in NAMES.items():
            error = getattr(errors, name)(**{attribute: "x" for attribute in told})
            self.assertEqual([getattr(error, attribute) for attribute in told], ["x"] * len(told))

    def test_there_are_no_others(self):
        made = [name for name, thing in vars(errors).items() if isinstance(thing, type)]
        self.assertEqual(sorted(made), sorted([*NAMES, "TinkerError"]))
