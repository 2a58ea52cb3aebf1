import copy
import unittest

from pagelend import errors
from pagelend.errors import AskedError, LendError, NoText, ToldError

FIELDS = {
    ToldError: {"NoSetup": None, "NoText": "line", "NoRow": None, "TooMany": "most"},
    AskedError: {
        "NoClient": "name", "NoFile": "name", "NoPage": "page", "NoValue": None,
        "NoTicks": None, "NoMessage": "number", "Busy": "name",
        "NotWaiting": "name", "NoLease": None, "Clean": None,
        "NothingLeft": None, "NoList": "name", "TooDeep": None,
    },
}
THINGS = [
    0, -1, 7, 10 ** 60, True, False, None, "", "ann", "a b\n~", [], [1, [2]],
    (), ("home", 2), [(), [None, (True,)]], object(), 10 ** 5000,
]


def rows():
    for family, classes in FIELDS.items():
        for name, field in classes.items():
            yield family, getattr(errors, name), field


class Families(unittest.TestCase):
    def test_lend_error_is_straight_under_value_error(self):
        self.assertEqual(LendError.__bases__, (ValueError,))

    def test_both_families_are_straight_under_lend_error(self):
        self.assertEqual(ToldError.__bases__, (LendError,))
        self.assertEqual(AskedError.__bases__, (LendError,))

    def test_each_class_is_straight_under_its_family_alone(self):
        for family, kind, _ in rows():
            self.assertEqual(kind.__bases__, (family,), kind)

    def test_no_class_is_one_of_another(self):
        kinds = [kind for _, kind, _ in rows()]
        self.assertEqual(len(set(kinds)), 17)
        for one in kinds:
            for other in kinds:
                self.assertEqual(issubclass(one, other), one is other)

    def test_each_class_is_defined_in_this_module_under_its_own_name(self):
        for kind in [LendError, ToldError, AskedError]:
            self.assertEqual(kind.__module__, "pagelend.errors")
        for family, classes in FIELDS.items():
            for name in classes:
                kind = getattr(errors, name)
                self.assertEqual((kind.__module__, kind.__name__), ("pagelend.errors", name))

    def test_each_is_caught_by_its_family_and_not_by_the_other(self):
        for family, kind, field in rows():
            with self.assertRaises(family) as caught:
                raise kind("ann")
            other = AskedError if family is ToldError else ToldError
            self.assertNotIsInstance(caught.exception, other)


class Fields(unittest.TestCase):
    def test_fields_are_kept_by_place_whatever_they_are(self):
        for _, kind, field in rows():
            for thing in THINGS if field else []:
                self.assertIs(getattr(kind(thing), field), thing)

    def test_fields_are_kept_by_name_whatever_they_are(self):
        for _, kind, field in rows():
            for thing in THINGS if field else []:
                self.assertIs(getattr(kind(**{field: thing}), field), thing)

    def test_what_is_kept_is_not_changed(self):
        thing = [1, [2, ("home", [])]]
        before = copy.deepcopy(thing)
        for _, kind, field in rows():
            if field:
                kind(thing)
        self.assertEqual(thing, before)

    def test_a_field_is_needed_but_for_the_line(self):
        for _, kind, field in rows():
            if field and kind is not NoText:
                self.assertRaises(TypeError, kind)

    def test_one_field_and_no_more(self):
        for _, kind, field in rows():
            if field:
                self.assertRaises(TypeError, kind, 1, 2)

    def test_line_is_none_where_nothing_is_handed_in(self):
        self.assertIsNone(NoText().line)
        self.assertEqual(NoText(3).line, 3)
        self.assertEqual(NoText(line=4).line, 4)

    def test_those_without_fields_are_made_of_a_text(self):
        for _, kind, field in rows():
            if field is None:
                self.assertEqual(str(kind("why not")), "why not")
        for kind in [LendError, ToldError, AskedError]:
            self.assertEqual(str(kind("why not")), "why not")

    def test_each_has_a_text(self):
        for _, kind, field in rows():
            for thing in THINGS if field else []:
                self.assertIsInstance(str(kind(thing)), str)


if __name__ == "__main__":
    unittest.main()
