"""Points 2 and 29: values written as items."""

import copy
import random
import unittest

from makes.items import count_of, deep_of, is_item
from makes.values import is_value
from makes.writing import written
from tests.drawing import great_makes, small_makes, values_of
from tests.samples import ALL_SIGNS, ZERO, in_rows
from tests.values_plainly import item_plainly, same

MOST = 10 ** 18
FORMS = {
    "n": ("whole", -MOST, MOST),
    "t": ("truth",),
    "s": ("text", 200),
    "r": ("row", "t", 20),
    "m": ("map", "n", 20),
    "rec": ("record", ((3, "zz", "n", (7,)), (5, "b", "t", ()), (9, "aa", "r", ((),))), (1, 4)),
    "shut": ("choice", ((1, "a", "n"), (4, "b", "rec")), (7,), False),
    "wide": ("choice", ((1, "a", "t"), (4, "b", "shut")), (7,), True),
}
MAKE = ("rec", FORMS)
YES = ("whole", 1)
NO = ("whole", 0)


class Written(unittest.TestCase):
    def told(self, name, value, item, make=MAKE):
        with self.subTest(name=name, value=value):
            self.assertTrue(is_value(make, name, value))
            self.assertTrue(same(written(make, name, value), item), written(make, name, value))

    def test_wholes(self):
        for n in [0, 1, -1, 2, MOST, -MOST]:
            self.told("n", n, ("whole", n))

    def test_truths(self):
        self.told("t", True, YES)
        self.told("t", False, NO)

    def test_texts(self):
        for text in ["", " ", "a" * 200, ALL_SIGNS]:
            self.told("s", text, ("text", text))

    def test_rows(self):
        self.told("r", (), ("row", ()))
        self.told("r", (True, False, True), ("row", (YES, NO, YES)))
        self.told("r", (False,) * 20, ("row", (NO,) * 20))

    def test_maps(self):
        self.told("m", (), ("map", ()))
        self.told("m", (("a", 5), ("ab", -5), ("b", 0)), ("map", (("a", ("whole", 5)), ("ab", ("whole", -5)), ("b", ZERO))))

    def test_fields(self):
        self.told("rec", ((8, True, (False,)), ()), ("rec", ((3, ("whole", 8)), (5, YES), (9, ("row", (NO,))))))
        self.told("rec", ((7, False, ()), ()), ("rec", ((5, NO),)))
        self.told("rec", ((7, True, (True,)), ()), ("rec", ((5, YES), (9, ("row", (YES,))))))
        self.told("rec", ((0, True, ()), ()), ("rec", ((3, ZERO), (5, YES))))
        self.told("rec", ((-7, True, ()), ()), ("rec", ((3, ("whole", -7)), (5, YES))))

    def test_a_field_that_must_be_there_is_always_there(self):
        forms = {"n": ("whole", 0, 1), "t": ("truth",), "s": ("text", 1), "r": ("row", "n", 1), "m": ("map", "n", 1)}
        fields = tuple((number, "n" + of, of, ()) for number, of in enumerate(sorted(forms), start=1))
        make = ("a", dict(forms, a=("record", fields, ())))
        items = (("map", ()), ZERO, ("row", ()), ("text", ""), NO)
        self.told("a", (((), 0, (), "", False), ()), ("rec", tuple(enumerate(items, start=1))), make)

    def default(self, shape, d, others):
        """Left out with its default, there with another value."""
        make = ("a", {"a": ("record", ((6, "x", "of", (d,)),), ()), "of": shape, "n": ("whole", 0, 9)})
        self.told("a", ((d,), ()), ("rec", ()), make)
        self.told("a", ((d,), ((5, ZERO), (7, ZERO))), ("rec", ((5, ZERO), (7, ZERO))), make)
        for value, item in others:
            self.told("a", ((value,), ()), ("rec", ((6, item),)), make)

    def test_defaults(self):
        self.default(("whole", -1, 2), 1, [(0, ZERO), (2, ("whole", 2)), (-1, ("whole", -1))])
        self.default(("whole", -1, 2), 0, [(1, YES), (2, ("whole", 2)), (-1, ("whole", -1))])
        self.default(("truth",), True, [(False, NO)])
        self.default(("truth",), False, [(True, YES)])
        self.default(("text", 3), "", [("a", ("text", "a")), (" ", ("text", " "))])
        self.default(("text", 3), "ab", [("", ("text", "")), ("a", ("text", "a")), ("ab ", ("text", "ab ")),
                                         ("AB", ("text", "AB"))])
        self.default(("row", "n", 3), (), [((0,), ("row", (ZERO,))), ((0, 0), ("row", (ZERO, ZERO)))])
        self.default(("map", "n", 3), (), [((("a", 0),), ("map", (("a", ZERO),)))])

    def test_others_among_the_fields_by_number(self):
        others = ((1, ("text", "b")), (4, ("row", (ZERO,))), (6, ZERO), (999, ("arm", 2, ZERO)))
        items = (others[0], (3, ZERO), others[1], (5, YES), others[2], (9, ("row", (YES,))), others[3])
        self.told("rec", ((0, True, (True,)), others), ("rec", items))
        self.told("rec", ((7, True, ()), others), ("rec", (others[0], others[1], (5, YES), others[2], others[3])))
        self.told("rec", ((7, True, ()), ((2, ZERO),)), ("rec", ((2, ZERO), (5, YES))))
        self.told("rec", ((7, True, ()), ((10, in_rows(ZERO, 30)),)), ("rec", ((5, YES), (10, in_rows(ZERO, 30)))))

    def test_no_fields(self):
        make = ("a", {"a": ("record", (), ())})
        self.told("a", ((), ()), ("rec", ()), make)
        self.told("a", ((), ((4, ZERO),)), ("rec", ((4, ZERO),)), make)

    def test_choices(self):
        self.told("shut", ("arm", 1, 5), ("arm", 1, ("whole", 5)))
        self.told("shut", ("arm", 4, ((7, True, ()), ())), ("arm", 4, ("rec", ((5, YES),))))
        self.told("wide", ("arm", 1, True), ("arm", 1, YES))
        self.told("wide", ("arm", 4, ("arm", 1, 0)), ("arm", 4, ("arm", 1, ZERO)))
        self.told("wide", ("other", 7, ("text", "a")), ("arm", 7, ("text", "a")))
        self.told("wide", ("other", 999, ("arm", 1, ZERO)), ("arm", 999, ("arm", 1, ZERO)))

    def test_within_one_another(self):
        make = ("a", {"a": ("row", "b", 3), "b": ("map", "c", 3), "c": ("record", ((2, "x", "d", ()),), ()),
                      "d": ("choice", ((1, "x", "e"), (2, "y", "a")), (), True), "e": ("truth",)})
        inner = ((), ())
        value = (inner[0], (("k", ((("arm", 1, False),), ((9, ZERO),))), ("l", ((("arm", 2, ()),), ()))))
        self.told("a", value, ("row", (("map", ()), ("map", (
            ("k", ("rec", ((2, ("arm", 1, NO)), (9, ZERO)))), ("l", ("rec", ((2, ("arm", 2, ("row", ()))),))))))), make)

    def test_deep_ones(self):
        make = ("a", {"a": ("row", "b", 3), "b": ("record", ((1, "x", "a", ((),)), (2, "y", "c", (True,))), ()),
                      "c": ("truth",)})
        value = ()
        item = ("row", ())
        for turn in range(45):
            value = (((value, False), ()),)
            inner = ((2, NO),) if turn == 0 else ((1, item), (2, NO))
            item = ("row", (("rec", inner),))
        self.told("a", value, item, make)
        self.assertEqual(deep_of(item), 91)


class Drawn(unittest.TestCase):
    def some(self, seed, own):
        rng = random.Random(seed)
        for make in small_makes(seed, 150) + great_makes(seed, 40):
            for name in sorted(make[1]):
                yield make, name, values_of(rng, make, name, 8, own)

    def test_as_the_document_tells(self):
        for own in [True, False]:
            for make, name, values in self.some(291, own):
                for value in values:
                    item = written(make, name, value)
                    self.assertTrue(same(item, item_plainly(make, name, value)), (make, name, value))
                    self.assertTrue(is_item(item))

    def test_unlike_values_have_unlike_items(self):
        many = 0
        for make, name, values in self.some(292, False):
            items = {}
            for value in values:
                other = items.setdefault(written(make, name, value), value)
                self.assertTrue(same(other, value), (make, name))
            many += len(items)
        self.assertGreater(many, 1000)

    def test_what_is_handed_in_stays(self):
        for make, name, values in self.some(293, False):
            before = copy.deepcopy((make, values))
            for value in values:
                written(make, name, value)
            self.assertEqual((make, values), before)

    def test_many_items(self):
        make = ("a", {"a": ("row", "b", 20), "b": ("row", "c", 20), "c": ("row", "n", 20), "n": ("whole", 0, 9)})
        item = written(make, "a", (((9,) * 20,) * 20,) * 20)
        self.assertEqual(count_of(item), 1 + 20 + 400 + 8000)


if __name__ == "__main__":
    unittest.main()
