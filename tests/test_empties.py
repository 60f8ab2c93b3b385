"""Points 2, 4, 40 and 41: empty forms, and least values."""

import copy
import itertools
import random
import unittest

from makes.empties import empty_forms, least_value
from makes.items import count_of
from makes.values import is_own
from makes.writing import written
from tests.drawing import great_makes, linked_make, make_pairs, small_makes
from tests.papers_plainly import empties_plainly, least_counts
from tests.samples import choice, record
from tests.values_plainly import same

TRUTH = ("truth",)


class Held(unittest.TestCase):
    def least(self, make, name, count):
        """Its least value is an own one of so many items; None where there is none."""
        value = least_value(make, name)
        if count is None:
            self.assertIsNone(value)
        else:
            self.assertTrue(is_own(make, name, value), (make, name, value))
            self.assertEqual(count_of(written(make, name, value)), count)

    def told(self, forms, empties, counts):
        with self.subTest(forms=forms):
            for root in forms:
                self.assertTrue(same(empty_forms((root, forms)), empties))
            for name, count in counts.items():
                self.least(("a", forms), name, count)
            for name in empties:
                self.assertIsNone(least_value(("a", forms), name))


class Empties(Held):
    def test_sorts_that_are_never_empty(self):
        forms = {"a": ("whole", 5, 9), "b": TRUTH, "c": ("text", 0), "d": ("row", "a", 0), "e": ("map", "a", 20),
                 "f": ("text", 200), "g": ("record", (), ())}
        self.told(forms, (), {name: 1 for name in forms})

    def test_records_that_need_themselves(self):
        self.told({"a": record("a")}, ("a",), {})
        self.told({"a": record("b"), "b": record("a")}, ("a", "b"), {})
        self.told({"a": record("t", "a"), "t": TRUTH}, ("a",), {"t": 1})
        self.told({"a": record("a", "t"), "t": TRUTH, "b": record("t", "t")}, ("a",), {"b": 3})
        self.told({"a": record("b"), "b": record("c"), "c": record("d"), "d": record("b"), "e": record("e", "a")},
                  ("a", "b", "c", "d", "e"), {})

    def test_records_of_empty_forms(self):
        self.told({"a": record("t", "t", "b"), "b": choice(), "t": TRUTH}, ("a", "b"), {"t": 1})
        self.told({"a": record("c"), "c": record("b"), "b": record("b")}, ("a", "b", "c"), {})

    def test_choices_without_arms(self):
        for wide in [True, False]:
            self.told({"a": choice(wide=wide)}, ("a",), {})
            self.told({"a": ("choice", (), (1, 2), wide), "b": TRUTH}, ("a",), {"b": 1})

    def test_choices_all_of_whose_arms_are_empty(self):
        for wide in [True, False]:
            self.told({"a": choice("a", wide=wide)}, ("a",), {})
            self.told({"a": choice("b", "c", wide=wide), "b": choice(wide=wide), "c": record("a")}, ("a", "b", "c"), {})
            self.told({"a": choice("b", "a", wide=wide), "b": choice("a", "b", wide=wide)}, ("a", "b"), {})

    def test_choices_with_an_arm_that_is_not_empty(self):
        for wide in [True, False]:
            self.told({"a": choice("a", "t", wide=wide), "t": TRUTH}, (), {"a": 2})
            self.told({"a": choice("b", "a", "t", wide=wide), "b": choice(), "t": TRUTH}, ("b",), {"a": 2})
            self.told({"a": choice("b", wide=wide), "b": record("c"), "c": choice("a", "d"), "d": ("record", (), ())},
                      (), {"a": 4, "b": 3, "c": 2, "d": 1})

    def test_rows_and_maps_of_empty_forms(self):
        for sort in ["row", "map"]:
            for most in [0, 1, 20]:
                self.told({"a": (sort, "b", most), "b": choice()}, ("b",), {"a": 1})
                self.told({"a": (sort, "a", most)}, (), {"a": 1})
                self.told({"a": record("b"), "b": (sort, "a", most)}, (), {"a": 2, "b": 1})
                self.told({"a": choice("b"), "b": (sort, "c", most), "c": record("c")}, ("c",), {"a": 2})

    def test_fields_that_may_be_left_out(self):
        forms = {"a": record(left_out=[("r", ()), ("m", ())]), "b": choice(), "r": ("row", "b", 3), "m": ("map", "a", 3)}
        self.told(forms, ("b",), {"a": 1, "r": 1, "m": 1})
        forms = {"a": record("b", left_out=[("t", True)]), "b": choice(), "t": TRUTH}
        self.told(forms, ("a", "b"), {"t": 1})
        forms = {"a": record("t", left_out=[("t", True), ("n", 7), ("s", "x"), ("r", ())]), "t": TRUTH, "n": ("whole", 0, 9),
                 "s": ("text", 1), "r": ("row", "a", 2)}
        self.told(forms, (), {"a": 2})

    def test_kinds(self):
        self.assertTrue(same(empty_forms(("a", {"a": TRUTH})), ()))
        self.assertTrue(same(empty_forms(("z", {"z": choice(), "b": choice(), "ab": choice()})), ("ab", "b", "z")))


class Leasts(Held):
    def test_single_ones(self):
        for low, high in [(0, 0), (5, 9), (-9, -5), (-10 ** 18, 10 ** 18), (10 ** 18, 10 ** 18)]:
            value = least_value(("a", {"a": ("whole", low, high)}), "a")
            self.assertIs(type(value), int)
            self.assertTrue(low <= value <= high)
        self.assertIs(type(least_value(("a", {"a": TRUTH}), "a")), bool)
        self.assertTrue(same(least_value(("a", {"a": ("row", "a", 3)}), "a"), ()))
        self.assertTrue(same(least_value(("a", {"a": ("map", "a", 3)}), "a"), ()))

    def test_defaults_are_left_out(self):
        forms = {"a": record("t", left_out=[("n", 7), ("s", "xy"), ("r", ()), ("t", True)]), "t": TRUTH, "n": ("whole", 0, 9),
                 "s": ("text", 2), "r": ("row", "t", 2)}
        value = least_value(("a", forms), "a")
        self.assertTrue(same(value[0][1:], (7, "xy", (), True)))
        self.assertTrue(same(value[1], ()))

    def test_the_fewest_of_the_arms(self):
        forms = {"a": choice("b", "c", "d"), "b": record("t", "t", "t"), "c": record("t"), "d": record("t", "t"), "t": TRUTH}
        for names in itertools.permutations("bcd"):
            some = dict(forms, a=choice(*names))
            self.least(("a", some), "a", 3)
            self.assertEqual(least_value(("a", some), "a")[1], names.index("c") + 1)

    def test_one_item_alone_against_two(self):
        for shape in [("whole", 0, 9), TRUTH, ("text", 3), ("row", "b", 3), ("map", "b", 3), record(),
                      record(left_out=[("b", True), ("b", False)])]:
            for names in ["sd", "ds"]:
                self.told({"a": choice(*names), "s": shape, "d": record("b"), "b": TRUTH}, (), {"a": 2, "s": 1, "d": 2})
                self.told({"a": choice(*names), "s": shape, "d": choice("b"), "b": TRUTH}, (), {"a": 2, "s": 1, "d": 2})

    def test_a_long_thin_way_and_a_short_thick_one(self):
        forms = {"a": choice("b", "h"), "b": choice("c"), "c": choice("d"), "d": choice("e"), "e": ("text", 3),
                 "h": record("e", "e", "e", "e")}
        self.told(forms, (), {"a": 5, "b": 4, "h": 5})
        forms["h"] = record("e", "e", "e")
        self.told(forms, (), {"a": 5, "h": 4})
        forms["h"] = record("e", "e")
        self.told(forms, (), {"a": 4, "h": 3})
        forms["h"] = record("e", "e", "e", "e", "e")
        self.told(forms, (), {"a": 5, "h": 6})

    def test_long_ways_through_many_forms(self):
        names = "abcdefgh"
        for order in ["abcdefgh", "hgfedcba", "dhbfaceg"]:
            forms = {}
            for one, other in zip(order, order[1:]):
                forms[one] = choice(one, other) if order.index(one) % 2 else record(other)
            forms[order[-1]] = TRUTH
            self.told({name: forms[name] for name in names}, (), {name: 8 - order.index(name) for name in names})
            forms[order[-1]] = choice(order[0])
            self.told({name: forms[name] for name in names}, tuple(names), {})

    def test_thick_ones(self):
        forms = {"a": record("b", "b", "b"), "b": record("c", "c", "c"), "c": record("d", "d", "d"), "d": ("record", (), ())}
        self.told(forms, (), {"a": 40, "b": 13, "c": 4, "d": 1})
        forms = {"a": record(*"bbbbbbb"), "b": record("c", "c", "c", "t"), "c": record("t", "t"), "t": TRUTH}
        self.told(forms, (), {"a": 78, "b": 11, "c": 3})
        forms["a"] = choice("b", "a", "d", "e")
        forms["d"] = record(*"bbbbbb")
        forms["e"] = record("a", "t")
        self.told(forms, (), {"a": 12, "d": 67, "e": 14})

    def test_forms_that_go_round(self):
        forms = {"a": record("b", "b"), "b": choice("a", "c"), "c": record("d", "t"), "d": choice("t", "a"), "t": TRUTH}
        self.told(forms, (), {"a": 11, "b": 5, "c": 4, "d": 2, "t": 1})


class Drawn(Held):
    def some(self, seed):
        rng = random.Random(seed)
        makes = small_makes(seed, 400) + great_makes(seed, 30) + [linked_make(rng) for turn in range(200)]
        return makes + [other for make, other in make_pairs(seed, 200)]

    def test_empty_forms_as_the_document_tells(self):
        seen = 0
        for make in self.some(401):
            self.assertTrue(same(empty_forms(make), empties_plainly(make)), make)
            seen += len(empty_forms(make))
        self.assertGreater(seen, 200)

    def test_least_values_have_the_fewest_items(self):
        for make in self.some(411):
            for name, count in least_counts(make, 60).items():
                if count is not None or name in empties_plainly(make):
                    self.least(make, name, count)

    def test_the_order_of_names_is_no_matter(self):
        for make in self.some(402):
            turned = (make[0], {name: make[1][name] for name in sorted(make[1], reverse=True)})
            self.assertEqual(empty_forms(make), empty_forms(turned))
            for name in make[1]:
                self.assertEqual(least_value(make, name) is None, least_value(turned, name) is None)

    def test_what_is_handed_in_stays(self):
        for make in self.some(403):
            before = copy.deepcopy(make)
            empty_forms(make)
            least_value(make, make[0])
            self.assertEqual(make, before)
            self.assertEqual(list(make[1]), list(before[1]))

    def test_what_is_told_is_the_askers_own(self):
        forms = {"a": record("b"), "b": choice("t", "a"), "t": TRUTH, "e": choice()}
        value = least_value(("a", forms), "a")
        empties = empty_forms(("a", forms))
        forms.clear()
        self.assertTrue(same(value[1], ()))
        self.assertEqual(value[0][0][:2], ("arm", 1))
        self.assertEqual(empties, ("e",))


if __name__ == "__main__":
    unittest.main()
