"""Point 8 and point 11: the classes of the refusals, their families and their fields."""

import unittest

from greatrows import errors
from helpers import Case, odd_things

PLAN_ERRORS = (
    "NoNumber", "NoName", "NoThing", "NoDeeds", "NoTests", "NoPlan", "NoSource", "NoShelf", "NoTruth", "NoList",
    "NoRow", "NoSpot", "NoWord", "NoLine", "NoPaper", "NoOrder", "Doubled",
)
FIELDS = {name: ("found",) for name in PLAN_ERRORS} | {
    "NoText": ("at",),
    "NotThere": ("found",), "NotOpen": ("found",),
    "Over": (), "Fault": ("name", "at"), "Thrown": ("word",), "TooMuch": ("many",), "Waits": ("many",),
    "NotShut": ("found",), "Begun": ("found",),
}
FAMILIES = {
    errors.PlanError: (*PLAN_ERRORS, "NoText"),
    errors.Missing: ("NotThere", "NotOpen"),
    errors.Barred: ("Over", "Fault", "Thrown", "TooMuch", "Waits", "NotShut", "Begun"),
}


class Families(Case):
    def test_families_stand_under_errors_of_python(self):
        self.assertEqual(errors.PlanError.__bases__, (ValueError,))
        self.assertEqual(errors.Missing.__bases__, (KeyError,))
        self.assertEqual(errors.Barred.__bases__, (LookupError,))

    def test_each_refusal_stands_straight_under_its_family(self):
        for family, names in FAMILIES.items():
            for name in names:
                self.assertEqual(vars(errors)[name].__bases__, (family,), name)

    def test_there_are_no_other_classes(self):
        classes = [name for name, thing in vars(errors).items() if isinstance(thing, type)]
        self.assertEqual(sorted(classes), sorted([*FIELDS, "PlanError", "Missing", "Barred"]))

    def test_each_class_is_defined_in_the_file(self):
        for name in [*FIELDS, "PlanError", "Missing", "Barred"]:
            self.assertEqual(vars(errors)[name].__module__, "greatrows.errors")

    def test_families_are_of_one_text(self):
        for family in FAMILIES:
            with self.assertRaises(family) as caught:
                raise family("it is so")
            self.assertIn("it is so", str(caught.exception))

    def test_a_refusal_is_caught_by_its_family_and_no_other(self):
        for family, names in FAMILIES.items():
            for name in names:
                for other in FAMILIES:
                    made = vars(errors)[name](*[None for _ in FIELDS[name]])
                    self.assertEqual(isinstance(made, other), other is family)


class Fields(Case):
    def check_fields(self, name, made, things):
        self.assertEqual(sorted(vars(made)), sorted(FIELDS[name]))
        for field, thing in zip(FIELDS[name], things):
            self.assertIs(vars(made)[field], thing)

    def test_of_any_things_by_place_and_by_name(self):
        things = odd_things()
        for name, fields in FIELDS.items():
            for at in range(len(things)):
                told = [things[at], things[at - 1]][:len(fields)]
                self.check_fields(name, vars(errors)[name](*told), told)
                self.check_fields(name, vars(errors)[name](**dict(zip(fields, told))), told)

    def test_fields_handed_in_by_name_in_any_order(self):
        made = errors.Fault(at=3, name="a")
        self.assertEqual((made.name, made.at), ("a", 3))
        made = errors.Fault("a", at=3)
        self.assertEqual((made.name, made.at), ("a", 3))

    def test_fields_are_no_copies(self):
        for name, fields in FIELDS.items():
            for field in fields:
                told = {each: [1] for each in fields}
                made = vars(errors)[name](**told)
                told[field].append(2)
                self.assertIs(vars(made)[field], told[field])
                self.assertEqual(vars(made)[field], [1, 2])

    def test_what_has_fields_is_not_made_without_them(self):
        for name, fields in FIELDS.items():
            if fields:
                self.assertRaises(TypeError, vars(errors)[name])
                self.assertRaises(TypeError, vars(errors)[name], *[1 for _ in range(len(fields) + 1)])
                self.assertRaises(TypeError, vars(errors)[name], thing=1)

    def test_two_refusals_have_nothing_in_common(self):
        one, other = errors.NotShut(["a"]), errors.NotShut(["a"])
        self.assertIsNot(one.found, other.found)
        one.found = None
        self.assertEqual(other.found, ["a"])

    def test_the_class_itself_has_no_fields(self):
        for name, fields in FIELDS.items():
            for field in fields:
                self.assertNotIn(field, vars(vars(errors)[name]))


if __name__ == "__main__":
    unittest.main()
