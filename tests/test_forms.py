"""Points 2, 3 and 25: makes; of point 28 what a default needs."""

import copy
import unittest

from makes.forms import form_of, is_make, sort_of
from tests.samples import ALL_SIGNS, DEEP_THINGS, WRONG_THINGS

TRUTH = ("truth",)
FORMS = {
    "n": ("whole", -5, 70),
    "t": TRUTH,
    "s": ("text", 4),
    "r": ("row", "n", 3),
    "m": ("map", "rec", 20),
    "rec": ("record", ((1, "a", "n", (7,)), (4, "b", "rec", ()), (9, "c", "m", ((),))), (2, 3)),
    "ch": ("choice", ((1, "a", "ch"), (2, "b", "t")), (7,), False),
    "any": ("choice", (), (), True),
}


def one_field(shape, default):
    return ("root", {"root": ("record", ((1, "a", "of", default),), ()), "of": shape})


class Makes(unittest.TestCase):
    def told(self, thing, right):
        with self.subTest(thing=thing):
            self.assertIs(is_make(thing), right)

    def test_makes(self):
        for root in FORMS:
            self.told((root, FORMS), True)
        self.told(("a", {"a": TRUTH}), True)
        self.told(("abcdefgh", {"abcdefgh": ("record", (), ())}), True)

    def test_the_order_of_names_is_no_matter(self):
        for names in [sorted(FORMS), sorted(FORMS, reverse=True)]:
            self.told(("rec", {name: FORMS[name] for name in names}), True)

    def test_a_root_that_is_no_forms(self):
        for root in ["b", "", "A", "abcdefghi", None, True, 0, 1, (), ("a",), ["a"], {}, {"a": TRUTH}, TRUTH]:
            self.told((root, {"a": TRUTH}), False)

    def test_an_of_that_is_no_forms(self):
        for shape in [("row", "b", 3), ("map", "b", 3), ("row", "b", 0), ("map", "b", 0),
                      ("record", ((1, "a", "b", ()),), ()), ("record", ((1, "b", "b", ()),), ()),
                      ("record", ((1, "x", "a", ()), (2, "y", "b", ())), ()),
                      ("choice", ((1, "a", "b"),), (), True), ("choice", ((1, "x", "a"), (2, "y", "b")), (), False)]:
            self.told(("a", {"a": shape}), False)
            self.told(("c", {"c": TRUTH, "a": shape}), False)
            self.told(("a", {"a": shape, "b": TRUTH}), True)
        self.told(("a", {"a": ("record", ((1, "x", "b", (5,)),), ())}), False)

    def test_how_many_forms(self):
        names = list("abcdefghi")
        self.told(("a", {}), False)
        for many in range(1, 9):
            self.told(("a", {name: TRUTH for name in names[:many]}), True)
        self.told(("a", {name: TRUTH for name in names}), False)

    def test_names_of_forms(self):
        for name in ["", "A", "a1", "a b", "abcdefghi", None, True, 1, (), ("a",)]:
            self.told(("b", {"b": TRUTH, name: TRUTH}), False)
            self.told((name, {name: TRUTH}), False)

    def test_forms_that_are_no_shapes(self):
        for shape in WRONG_THINGS + [["truth"], ("truth", ()), ("whole", 1, 0), ("text", 201), ("row", "a", 21),
                                     ("record", (), [],), ("choice", (), (), 1), "truth", ("whole", True, 5)]:
            self.told(("a", {"a": shape}), False)
            self.told(("b", {"b": TRUTH, "a": shape}), False)
            self.told(("a", {"a": TRUTH, "b": shape}), False)

    def test_other_things(self):
        for thing in WRONG_THINGS + DEEP_THINGS + ["a", ("a", TRUTH), ("a",), ("a", {"a": TRUTH}, ()), ["a", {"a": TRUTH}],
                                     {"a": TRUTH}, ({"a": TRUTH}, "a"), ("a", [("a", TRUTH)]), ("a", (("a", TRUTH),)),
                                     ("a", None), ("a", "a"), ("a", ["a"]), ("a", True)]:
            self.told(thing, False)

    def test_forms_that_go_round(self):
        self.told(("a", {"a": ("record", ((1, "a", "a", ()),), ())}), True)
        self.told(("a", {"a": ("row", "a", 3)}), True)
        self.told(("a", {"a": ("map", "b", 3), "b": ("choice", ((1, "x", "a"),), (), False)}), True)
        self.told(("a", {"a": ("choice", (), (), False)}), True)

    def test_defaults_of_wholes(self):
        for d in [-5, -4, 0, 1, 69, 70]:
            self.told(one_field(("whole", -5, 70), (d,)), True)
        for d in [-6, 71, 10 ** 39, True, False, None, "", "0", (), (0,), [], [0], {}, ("whole", 0)]:
            self.told(one_field(("whole", -5, 70), (d,)), False)
        self.told(one_field(("whole", 10 ** 18, 10 ** 18), (10 ** 18,)), True)
        self.told(one_field(("whole", 1, 1), (True,)), False)
        self.told(one_field(("whole", 0, 0), (False,)), False)

    def test_defaults_of_truths(self):
        for d in [True, False]:
            self.told(one_field(TRUTH, (d,)), True)
        for d in [0, 1, -1, 2, None, "", "yes", "True", (), (True,), [], {}]:
            self.told(one_field(TRUTH, (d,)), False)

    def test_defaults_of_texts(self):
        for d in ["", " ", "abcd", "    ", "~!{\\"]:
            self.told(one_field(("text", 4), (d,)), True)
        for d in ["abcde", "     ", None, True, 0, (), ("a",), ["a"], {}, ("text", "a")]:
            self.told(one_field(("text", 4), (d,)), False)
        self.told(one_field(("text", 0), ("",)), True)
        self.told(one_field(("text", 0), (" ",)), False)
        self.told(one_field(("text", 200), ("a" * 200,)), True)
        self.told(one_field(("text", 200), ("a" * 201,)), False)
        self.told(one_field(("text", 94), (ALL_SIGNS,)), True)

    def test_defaults_of_rows_and_maps(self):
        for sort in ["row", "map"]:
            for most in [0, 20]:
                self.told(one_field((sort, "root", most), ((),)), True)
                self.told(one_field((sort, "of", most), ((),)), True)
                for d in [None, True, False, 0, "", [], {}, ((),), (1,), [()], ("row", ()), (("a", ()),)]:
                    self.told(one_field((sort, "of", most), (d,)), False)

    def test_a_value_of_a_row_or_map_that_is_no_default(self):
        for shape, d in [(("row", "n", 3), (1,)), (("map", "n", 3), (("a", 1),))]:
            forms = {"root": ("record", ((1, "a", "of", (d,)),), ()), "of": shape, "n": ("whole", 0, 9)}
            self.told(("root", forms), False)

    def test_no_defaults_of_records_and_choices(self):
        for d in [(), ((), ()), (((),), ()), None, 0, "", ("arm", 1, True), ("other", 9, ("whole", 0)), True, {}, []]:
            self.told(one_field(("record", (), ()), (d,)), False)
            self.told(one_field(("choice", (), (), True), (d,)), False)
            self.told(one_field(("choice", ((1, "a", "root"),), (), False), (d,)), False)
        self.told(one_field(("record", (), ()), ()), True)
        self.told(one_field(("choice", (), (), True), ()), True)

    def test_each_field_is_looked_at(self):
        forms = {"n": ("whole", 0, 9), "t": TRUTH}
        for first, second, right in [(5, True, True), (10, True, False), (5, 1, False), (True, True, False)]:
            record = ("record", ((1, "a", "n", (first,)), (2, "b", "t", (second,))), ())
            self.told(("root", dict(forms, root=record)), right)
            self.told(("n", dict(forms, root=record)), right)

    def test_must_be_there(self):
        for shape in [("whole", 0, 0), TRUTH, ("text", 0), ("row", "of", 0), ("map", "of", 0)]:
            self.told(one_field(shape, ()), True)

    def test_what_is_handed_in_stays(self):
        for thing in [("rec", FORMS), ("a", {"a": ["truth"], "b": {"c": [1, 2]}}), ["rec", dict(FORMS)]]:
            before = copy.deepcopy(thing)
            is_make(thing)
            self.assertEqual(thing, before)


class OneForm(unittest.TestCase):
    def test_form_of(self):
        for name, shape in FORMS.items():
            self.assertEqual(form_of(("n", FORMS), name), shape)

    def test_a_name_that_is_no_forms(self):
        for name in ["a", "b", "root", "re", "recs", "abcdefgh"]:
            self.assertIsNone(form_of(("n", FORMS), name))

    def test_sort_of(self):
        sorts = {"n": "whole", "t": "truth", "s": "text", "r": "row", "m": "map", "rec": "record", "ch": "choice",
                 "any": "choice"}
        for name, sort in sorts.items():
            self.assertEqual(sort_of(("n", FORMS), name), sort)

    def test_the_make_stays(self):
        make = ("n", dict(FORMS))
        form_of(make, "zzz")
        form_of(make, "n")
        sort_of(make, "n")
        self.assertEqual(make, ("n", FORMS))


if __name__ == "__main__":
    unittest.main()
