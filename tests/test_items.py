"""Points 2, 3 and 10: names and items."""

import copy
import unittest

from makes.items import count_of, deep_of, is_item, is_name
from tests.samples import ALL_SIGNS, DEEP_THINGS, PACKED, WRONG_THINGS, ZERO, in_all, in_arms, in_rows

LETTERS = "abcdefghijklmnopqrstuvwxyz"


class Names(unittest.TestCase):
    def told(self, thing, right):
        with self.subTest(thing=thing):
            self.assertIs(is_name(thing), right)

    def test_names(self):
        for thing in ["ab", "name", "abcdefg", "abcdefgh", "zzzzzzzz"] + list(LETTERS):
            self.told(thing, True)

    def test_how_long(self):
        for many in range(0, 40):
            self.told("a" * many, 1 <= many <= 8)

    def test_other_signs(self):
        for sign in ALL_SIGNS:
            for thing in [sign, sign + "a", "a" + sign, "a" + sign + "b", "abcdefg" + sign]:
                self.told(thing, sign in LETTERS)

    def test_wrong_things(self):
        for thing in WRONG_THINGS + DEEP_THINGS + [0, 1, ("a", "b"), {"a": "b"}, [["a"]]]:
            self.told(thing, False)


class Items(unittest.TestCase):
    def told(self, thing, right):
        with self.subTest(thing=thing):
            self.assertIs(is_item(thing), right)

    def told_within(self, thing, right):
        """By itself, and as a part of each sort of item."""
        self.told(thing, right)
        self.told(("row", (ZERO, thing)), right)
        self.told(("row", (thing, ZERO)), right)
        self.told(("map", (("a", ZERO), ("b", thing))), right)
        self.told(("rec", ((1, ZERO), (2, thing))), right)
        self.told(("arm", 5, thing), right)
        self.told(("row", (("map", (("a", ("rec", ((1, ("arm", 1, thing)),))),)),)), right)

    def test_samples(self):
        for item, file in PACKED:
            self.told_within(item, True)

    def test_wholes(self):
        for n in [0, 1, -1, 10 ** 18, -10 ** 18, 10 ** 18 - 1, 1 - 10 ** 18]:
            self.told_within(("whole", n), True)
        for n in [10 ** 18 + 1, -10 ** 18 - 1, 10 ** 39, -10 ** 39]:
            self.told_within(("whole", n), False)
        for n in [True, False, None, "", "1", (), (1,), [], [1], {}, ("whole", 1)]:
            self.told_within(("whole", n), False)

    def test_texts(self):
        for text in ["", " ", ALL_SIGNS, "a" * 199, "a" * 200, "~" * 200]:
            self.told_within(("text", text), True)
        for text in ["a" * 201, "a" * 400]:
            self.told_within(("text", text), False)
        for text in [None, True, 0, 1, (), ("a",), [], ["a"], {}, ("text", "")]:
            self.told_within(("text", text), False)

    def test_rows(self):
        self.told_within(("row", ()), True)
        self.told_within(("row", (ZERO,) * 300), True)
        for parts in [[], [ZERO], ZERO, {}, None, True, 0, "", (0,), (ZERO, None), (ZERO, ZERO, [])]:
            self.told_within(("row", parts), False)

    def test_maps(self):
        self.told_within(("map", ()), True)
        self.told_within(("map", (("a", ZERO), ("aa", ZERO), ("ab", ZERO), ("b", ZERO), ("zzzzzzzz", ZERO))), True)
        for names in [("a", "a"), ("b", "a"), ("aa", "a"), ("a", "c", "b"), ("a", "b", "b"), ("ab", "aa")]:
            self.told_within(("map", tuple((name, ZERO) for name in names)), False)
        for name in ["", "A", "a1", "abcdefghi", None, 1, True, (), ("a",), ["a"], {}]:
            self.told_within(("map", ((name, ZERO),)), False)
        for pair in [["a", ZERO], ("a",), ("a", ZERO, ZERO), (), "a", None, {"a": ZERO}, (ZERO, "a"), ("a", None)]:
            self.told_within(("map", (pair,)), False)
        for pairs in [[], [("a", ZERO)], {}, {"a": ZERO}, None, ("a", ZERO), "", 0]:
            self.told_within(("map", pairs), False)

    def test_recs(self):
        self.told_within(("rec", ()), True)
        self.told_within(("rec", ((1, ZERO), (2, ZERO), (10, ZERO), (998, ZERO), (999, ZERO))), True)
        for numbers in [(1, 1), (2, 1), (1, 3, 2), (1, 2, 2), (999, 1), (10, 9)]:
            self.told_within(("rec", tuple((number, ZERO) for number in numbers)), False)
        for number in [0, -1, 1000, 10 ** 18, True, None, "", "1", "a", (), (1,), [1], {}]:
            self.told_within(("rec", ((number, ZERO),)), False)
        self.told_within(("rec", ((True, ZERO), (2, ZERO))), False)
        for pair in [[1, ZERO], (1,), (1, ZERO, ZERO), (), 1, None, {1: ZERO}, (ZERO, 1), (1, None), (1, 1)]:
            self.told_within(("rec", (pair,)), False)
        for pairs in [[], [(1, ZERO)], {}, {1: ZERO}, None, (1, ZERO), "", 0]:
            self.told_within(("rec", pairs), False)

    def test_arms(self):
        for number in [1, 2, 998, 999]:
            self.told_within(("arm", number, ZERO), True)
        for number in [0, -1, 1000, 10 ** 18, True, False, None, "1", "a", (1,), [1], {}, ()]:
            self.told_within(("arm", number, ZERO), False)
        for inner in [None, True, 0, "", (), [], {}, ["whole", 0], ("whole",), (ZERO,)]:
            self.told_within(("arm", 1, inner), False)
        for thing in [("arm", 1), ("arm", ZERO), ("arm", 1, ZERO, ZERO), ("arm",), ["arm", 1, ZERO], ("arm", ZERO, 1)]:
            self.told_within(thing, False)

    def test_no_sort_of_item(self):
        for sort in ["Whole", "truth", "record", "choice", "other", "", "wholes", None, 0, True, (), [], {}, ("whole",)]:
            for thing in [(sort, 0), (sort, ""), (sort, ()), (sort, 1, ZERO), (sort,)]:
                self.told_within(thing, False)

    def test_how_many_things(self):
        for thing in [("whole",), ("whole", 0, 0), ("text",), ("text", "", ""), ("row",), ("row", (), ()),
                      ("map",), ("map", (), ()), ("rec",), ("rec", (), ()), ("row", 1, ZERO), ("whole", 1, ZERO)]:
            self.told_within(thing, False)

    def test_lists_for_tuples(self):
        for thing in [["whole", 0], ["text", ""], ["row", ()], ["map", ()], ["rec", ()], {"whole": 0}, "whole", "text"]:
            self.told_within(thing, False)

    def test_wrong_things(self):
        for thing in WRONG_THINGS:
            self.told_within(thing, False)
        for thing in DEEP_THINGS:
            self.told(thing, False)

    def test_how_deep(self):
        for inner in [ZERO, ("text", ""), ("row", ()), ("map", ()), ("rec", ())]:
            self.told(in_arms(inner, 99), True)
            self.told(in_arms(inner, 100), False)
            self.told(in_arms(inner, 140), False)
            self.told(in_all(in_arms(inner, 84), 5), True)
            self.told(in_all(in_arms(inner, 85), 5), False)

    def test_how_deep_in_one_part_alone(self):
        self.told(("row", (ZERO, in_arms(ZERO, 98), ZERO)), True)
        self.told(("row", (ZERO, in_arms(ZERO, 99), ZERO)), False)
        self.told(("rec", ((1, in_arms(ZERO, 98)), (2, ZERO))), True)
        self.told(("map", (("a", in_arms(ZERO, 99)), ("b", ZERO))), False)

    def test_what_is_handed_in_stays(self):
        for thing in [["row", [["whole", 0]]], ("map", [("a", {"b": [1]})]), {"row": [()]}, ("row", (ZERO, [ZERO]))]:
            before = copy.deepcopy(thing)
            is_item(thing)
            is_name(thing)
            self.assertEqual(thing, before)

    def test_many_items(self):
        self.told(("row", (ZERO,) * 1999), True)
        self.told(("row", (ZERO,) * 1998 + (("whole", None),)), False)


class Sizes(unittest.TestCase):
    CASES = [
        (ZERO, 1, 1),
        (("text", ""), 1, 1),
        (("text", "abc"), 1, 1),
        (("row", ()), 1, 1),
        (("map", ()), 1, 1),
        (("rec", ()), 1, 1),
        (("arm", 7, ZERO), 2, 2),
        (("arm", 7, ("row", ())), 2, 2),
        (("row", (ZERO, ZERO, ZERO)), 4, 2),
        (("map", (("a", ZERO), ("b", ("text", "")))), 3, 2),
        (("rec", ((1, ZERO), (2, ("row", (ZERO,))))), 4, 3),
        (("rec", ((1, ("row", (ZERO,))), (2, ZERO))), 4, 3),
        (("row", (("row", ()), ("map", ()), ("rec", ()))), 4, 2),
        (("row", (("arm", 1, ("arm", 2, ZERO)), ("row", (("row", ()),)), ZERO)), 7, 4),
        (("map", (("a", ("rec", ((9, ("row", (ZERO, ("arm", 3, ZERO)))),))),)), 6, 5),
    ]

    def test_count_and_deep(self):
        for item, many, deep in self.CASES:
            with self.subTest(item=item):
                self.assertEqual(count_of(item), many)
                self.assertEqual(deep_of(item), deep)

    def test_deep_ones(self):
        for many in [1, 39, 99]:
            for wrap in [in_arms, in_rows]:
                self.assertEqual(deep_of(wrap(ZERO, many)), many + 1)
                self.assertEqual(count_of(wrap(ZERO, many)), many + 1)
        self.assertEqual(deep_of(in_all(ZERO, 33)), 100)
        self.assertEqual(count_of(in_all(ZERO, 33)), 100)

    def test_wide_ones(self):
        row = ("row", (ZERO,) * 43)
        self.assertEqual(count_of(("row", (row,) * 45)), 1 + 45 * 44)
        self.assertEqual(deep_of(("row", (row,) * 45)), 3)
        self.assertEqual(deep_of(("row", (row, ZERO))), 3)
        self.assertEqual(deep_of(("row", (ZERO, row))), 3)


if __name__ == "__main__":
    unittest.main()
