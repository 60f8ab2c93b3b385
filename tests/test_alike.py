"""Points 2, 32 and 33: values that tell alike."""

import copy
import random
import unittest

from makes.alike import tells_alike
from makes.errors import BadItem
from makes.reading import read
from makes.values import is_own
from makes.writing import written
from tests.drawing import great_makes, small_makes, values_of, variants
from tests.samples import DEEP_THINGS, WRONG_THINGS, ZERO, nested
from tests.values_plainly import alike_plainly, is_value_plainly, same, twin_of

YES = ("whole", 1)
TRUTH = ("truth",)


def one_form(shape):
    return ("a", {"a": shape, "t": TRUTH, "n": ("whole", 0, 9), "s": ("text", 3), "r": ("row", "n", 3), "e": ("record", (), ())})


class Told(unittest.TestCase):
    def alike(self, shape, value, other_shape, told, right):
        make = one_form(shape)
        other = one_form(other_shape)
        self.assertTrue(is_own(make, "a", value), value)
        with self.subTest(shape=shape, value=value, other_shape=other_shape, told=told):
            self.assertIs(tells_alike(make, "a", value, other, "a", told), right)
            self.assertIs(alike_plainly(make, "a", value, other, "a", told), right)

    def only(self, shape, value, other_shape, right, wrongs):
        """Of these things just the one tells alike."""
        self.alike(shape, value, other_shape, right, True)
        for wrong in wrongs + WRONG_THINGS:
            if not same(wrong, right):
                self.alike(shape, value, other_shape, wrong, False)


class Singles(Told):
    def test_wholes(self):
        for n in [-3, 0, 1, 7]:
            self.only(("whole", -3, 7), n, ("whole", -5, 9), n, [-4, 2, 8, True, False, "0", (n,), ("whole", n)])
        self.alike(("whole", -3, 7), 7, ("whole", 0, 6), 7, False)
        self.alike(("whole", -3, 7), -3, ("whole", -2, 6), -3, False)

    def test_truths(self):
        self.only(TRUTH, True, TRUTH, True, [1, 0, "True", (True,)])
        self.only(TRUTH, False, TRUTH, False, [1, 0, "", (False,)])

    def test_wholes_and_truths_either_way(self):
        self.only(TRUTH, True, ("whole", -5, 5), 1, [0, -1, 2])
        self.only(TRUTH, False, ("whole", -5, 5), 0, [1, -1, 2])
        self.only(("whole", -5, 5), 1, TRUTH, True, [0, 1, 2])
        self.only(("whole", -5, 5), 0, TRUTH, False, [0, 1, 2])
        for told in [True, False, 0, 1, 2]:
            self.alike(("whole", -5, 5), 2, TRUTH, told, False)
            self.alike(("whole", -5, 5), -1, TRUTH, told, False)
        self.alike(TRUTH, True, ("whole", 0, 0), 1, False)
        self.alike(TRUTH, False, ("whole", 1, 5), 0, False)

    def test_texts(self):
        for text in ["", " ", "ab"]:
            self.only(("text", 2), text, ("text", 4), text, ["a", "b", "  ", "ab ", "AB", "abc", ("ab",), ["a", "b"]])
        self.alike(("text", 4), "abc", ("text", 2), "abc", False)
        self.alike(("text", 4), "abc", ("text", 2), "ab", False)


class Rows(Told):
    def test_rows(self):
        self.only(("row", "n", 3), (), ("row", "n", 5), (), [(0,), [], ("row", ())])
        self.only(("row", "n", 3), (1, 2, 1), ("row", "n", 5), (1, 2, 1),
                  [(1, 2), (1, 2, 1, 1), (1, 1, 2), (2, 1, 1), [1, 2, 1], (1, 2, True), (1, 2, 2), (0, 2, 1)])
        self.only(("row", "t", 3), (True, False), ("row", "n", 5), (1, 0), [(True, False), (0, 1), (1, False), (1,)])
        self.only(("row", "n", 3), (1, 0), ("row", "t", 5), (True, False), [(1, 0), (False, True), (True,), (True, False, False)])
        self.alike(("row", "n", 3), (1, 2, 3), ("row", "n", 2), (1, 2, 3), False)
        self.alike(("row", "n", 3), (1, 2, 3), ("row", "n", 2), (1, 2), False)

    def test_rows_of_unlike_forms(self):
        self.alike(("row", "n", 3), (), ("row", "s", 3), (), True)
        self.alike(("row", "n", 3), (1,), ("row", "s", 3), ("1",), False)
        self.alike(("map", "n", 3), (), ("map", "s", 3), (), True)

    def test_maps(self):
        self.only(("map", "n", 3), (("a", 1), ("bb", 0)), ("map", "n", 3), (("a", 1), ("bb", 0)),
                  [(("a", 1),), (("bb", 0),), (("a", 1), ("b", 0)), (("aa", 1), ("bb", 0)), (("bb", 0), ("a", 1)), (1, 0),
                   (("a", 0), ("bb", 1)), (("a", 1), ("bb", 0), ("c", 0)), (("a", True), ("bb", 0)), {"a": 1, "bb": 0},
                   [("a", 1), ("bb", 0)], (["a", 1], ["bb", 0])])
        self.only(("map", "n", 3), (("a", 1), ("b", 0)), ("map", "t", 3), (("a", True), ("b", False)),
                  [(("a", 1), ("b", 0)), (("a", True), ("b", True)), (("a", True),)])
        self.alike(("map", "n", 3), (("a", 1), ("b", 0)), ("map", "n", 1), (("a", 1), ("b", 0)), False)


class Records(Told):
    def test_a_field_of_both_under_another_name(self):
        shape = ("record", ((1, "x", "n", ()), (2, "y", "n", ())), ())
        self.only(shape, ((5, 6), ()), ("record", ((1, "y", "n", ()), (2, "x", "n", ())), ()), ((5, 6), ()),
                  [((6, 5), ()), ((5, 5), ()), ((5, 6), ((3, ZERO),)), ((5, 6, 0), ()), ((5,), ()), ((5, 6),), [(5, 6), ()]])

    def test_the_same_name_under_another_number(self):
        shape = ("record", ((1, "x", "n", ()),), ())
        other = ("record", ((2, "x", "n", (5,)),), ())
        self.only(shape, ((5,), ()), other, ((5,), ((1, ("whole", 5)),)), [((5,), ()), ((4,), ((1, ("whole", 5)),)),
                                                                         ((5,), ((1, ("whole", 4)),))])

    def test_a_field_of_both_of_another_form(self):
        shape = ("record", ((1, "x", "n", ()),), ())
        self.only(shape, ((1,), ()), ("record", ((1, "x", "t", ()),), ()), ((True,), ()), [((1,), ()), ((False,), ())])
        self.alike(shape, ((1,), ()), ("record", ((1, "x", "s", ()),), ()), (("1",), ()), False)
        self.alike(shape, ((1,), ()), ("record", ((1, "x", "s", ("",)),), ()), (("",), ((1, YES),)), False)

    def test_defaults_of_a_field_of_both_are_no_matter(self):
        for default in [(), (3,), (4,)]:
            for other_default in [(), (3,), (4,)]:
                self.only(("record", ((1, "x", "n", default),), ()), ((3,), ()), ("record", ((1, "x", "n", other_default),), ()),
                          ((3,), ()), [((4,), ()), ((3,), ((1, ZERO),)), ((0,), ())])

    def test_what_the_other_alone_has(self):
        shape = ("record", ((2, "x", "n", ()),), ())
        for of, default, wrongs in [("n", 7, [0, 1, 8, True]), ("t", True, [False, 1]), ("t", False, [True, 0]),
                                    ("s", "ab", ["", "a", "abc"]), ("s", "", ["a", " "]), ("r", (), [(0,), []])]:
            self.only(shape, ((5,), ()), ("record", ((1, "y", of, (default,)), (2, "x", "n", ())), ()), ((default, 5), ()),
                      [((wrong, 5), ()) for wrong in wrongs])
            self.only(shape, ((5,), ()), ("record", ((2, "x", "n", ()), (3, "y", of, (default,))), ()), ((5, default), ()),
                      [((5, wrong), ()) for wrong in wrongs])
            for told in [default] + wrongs:
                self.alike(shape, ((5,), ()), ("record", ((2, "x", "n", ()), (3, "y", of, ())), ()), ((5, told), ()), False)

    def test_what_the_other_has_not(self):
        shape = ("record", ((1, "x", "n", ()), (2, "y", "t", (True,)), (3, "z", "s", ())), ())
        none = ("record", (), ())
        others = ((1, ("whole", 5)), (2, ZERO), (3, ("text", "")))
        wrongs = [((), ()), ((), others[:2]), ((), others[1:]), ((), others[:1] + others[2:]), ((), others + ((4, ZERO),)),
                  ((), ((1, YES),) + others[1:]), ((), others[::-1]), ((), list(others)),
                  ((), ((1, ("whole", 5)), (2, ("whole", False)), (3, ("text", "")))), ((), others[:2] + ((3, ("text", " ")),))]
        self.only(shape, ((5, False, ""), ()), none, ((), others), wrongs)

    def test_what_the_other_has_not_and_is_left_out(self):
        shape = ("record", ((1, "x", "n", (5,)), (2, "y", "t", (True,)), (3, "z", "r", ((),))), ())
        none = ("record", (), ())
        self.only(shape, ((5, True, ()), ()), none, ((), ()),
                  [((), ((1, ("whole", 5)),)), ((), ((2, YES),)), ((), ((3, ("row", ())),))])
        self.only(shape, ((5, False, ()), ()), none, ((), ((2, ZERO),)), [((), ()), ((), ((1, ("whole", 5)), (2, ZERO)))])
        self.only(shape, ((1, True, (0,)), ()), none, ((), ((1, YES), (3, ("row", (ZERO,))))), [((), ()), ((), ((1, YES),))])
        self.only(shape, ((1, True, (0,)), ()), ("record", ((2, "q", "n", ()),), ()), ((1,), ((1, YES), (3, ("row", (ZERO,))))),
                  [((True,), ((1, YES), (3, ("row", (ZERO,))))), ((1,), ()), ((0,), ((1, YES), (3, ("row", (ZERO,)))))])

    def test_struck_numbers_are_numbers_like_any_other(self):
        shape = ("record", ((1, "x", "n", ()),), ())
        self.only(shape, ((5,), ()), ("record", (), (1, 2)), ((), ((1, ("whole", 5)),)), [((), ())])

    def test_empty_ones(self):
        self.only(("record", (), ()), ((), ()), ("record", (), ()), ((), ()), [((), ((1, ZERO),)), ((), [])])


class Choices(Told):
    SHAPE = ("choice", ((1, "x", "n"), (2, "y", "t"), (3, "z", "e")), (), False)

    def test_the_same_number(self):
        other = ("choice", ((1, "q", "n"), (2, "x", "n")), (), False)
        self.only(self.SHAPE, ("arm", 1, 1), other, ("arm", 1, 1),
                  [("arm", 2, 1), ("arm", 1, 0), ("arm", 1, True), ("arm", True, 1), ("other", 1, YES), ["arm", 1, 1], 1, (1, 1)])
        self.only(self.SHAPE, ("arm", 2, True), other, ("arm", 2, 1), [("arm", 2, True), ("arm", 1, 1), ("arm", 2, 0)])

    def test_an_other(self):
        other = ("choice", ((1, "x", "n"), (5, "y", "t")), (2,), True)
        self.only(self.SHAPE, ("arm", 2, True), other, ("other", 2, YES),
                  [("other", 3, YES), ("other", 2, ZERO), ("arm", 1, 1), ("arm", 5, True), ("other", 2, True), ("arm", 2, True),
                   ("other", 2, ("whole", True)), ("other", 2, ("text", ""))])
        self.only(self.SHAPE, ("arm", 1, 1), other, ("arm", 1, 1), [("other", 1, YES), ("other", 2, YES), ("other", 9, YES)])
        shut = other[:3] + (False,)
        for told in [("other", 2, YES), ("arm", 2, True), ("arm", 1, 1), ("arm", 5, True)]:
            self.alike(self.SHAPE, ("arm", 2, True), shut, told, False)

    def test_an_other_of_what_is_left_out(self):
        make = ("a", {"a": ("choice", ((1, "x", "b"),), (), False), "b": ("record", ((1, "x", "t", (True,)),), ()), "t": TRUTH})
        other = ("a", {"a": ("choice", (), (), True)})
        for known, item, right in [(True, ("rec", ()), True), (True, ("rec", ((1, YES),)), False),
                                   (False, ("rec", ((1, ZERO),)), True), (False, ("rec", ()), False)]:
            self.assertIs(tells_alike(make, "a", ("arm", 1, ((known,), ())), other, "a", ("other", 1, item)), right)

    def test_an_arm_of_another_form(self):
        other = ("choice", ((1, "x", "s"), (2, "y", "t")), (), True)
        for told in [("arm", 1, "1"), ("arm", 1, ""), ("other", 1, YES), ("arm", 2, True), ("arm", 1, 1)]:
            self.alike(self.SHAPE, ("arm", 1, 1), other, told, False)


class UnlikeSorts(Told):
    def test_none_is_alike(self):
        some = [(("whole", 0, 9), 0, 0), (("text", 3), "", 1), (("row", "n", 3), (), 2), (("map", "n", 3), (), 3),
                (("record", (), ()), ((), ()), 4), (("choice", ((1, "x", "t"),), (), True), ("arm", 1, True), 5), (TRUTH, False, 0)]
        for shape, value, sort in some:
            for other_shape, other_value, other_sort in some:
                self.alike(shape, value, other_shape, other_value, sort == other_sort)
                self.alike(shape, value, other_shape, value, sort == other_sort and same(value, other_value))

    def test_within(self):
        make = ("a", {"a": ("row", "b", 1), "b": ("row", "b", 1)})
        other = ("a", {"a": ("row", "b", 1), "b": ("map", "b", 1)})
        self.assertIs(tells_alike(make, "a", (), other, "a", ()), True)
        self.assertIs(tells_alike(make, "a", ((),), other, "a", ((),)), False)


class AnyThing(unittest.TestCase):
    def pairs(self, seed):
        rng = random.Random(seed)
        makes = small_makes(seed, 250)
        for make, other in zip(makes, makes[1:] + makes[:1]):
            name = rng.choice(sorted(make[1]))
            other_name = rng.choice(sorted(other[1]))
            for value in values_of(rng, make, name, 5):
                yield rng, make, name, value, other, other_name
                yield rng, make, name, value, make, name
                yield rng, make, name, value, grown(rng, make), name

    def test_as_the_document_tells(self):
        seen = {True: 0, False: 0}
        for rng, make, name, value, other, other_name in self.pairs(321):
            twin = twin_of(make, name, value, other, other_name)
            things = WRONG_THINGS[:8] + values_of(rng, other, other_name, 2, False) + [value]
            things.extend([] if twin is None else [twin] + variants(rng, twin))
            for thing in things:
                told = tells_alike(make, name, value, other, other_name, thing)
                self.assertIs(told, alike_plainly(make, name, value, other, other_name, thing))
                seen[told] += 1
        self.assertGreater(min(seen.values()), 700)

    def test_what_is_read_and_tells_alike_is_the_one_that_does(self):
        seen = 0
        for rng, make, name, value, other, other_name in self.pairs(322):
            twin = twin_of(make, name, value, other, other_name)
            try:
                told = read(other, other_name, written(make, name, value))
            except BadItem:
                continue
            if tells_alike(make, name, value, other, other_name, told):
                self.assertTrue(same(told, twin))
                seen += 1
        self.assertGreater(seen, 300)

    def test_to_itself_by_its_own_form_and_nothing_else(self):
        rng = random.Random(331)
        for make in small_makes(332, 150) + great_makes(333, 40):
            for name in sorted(make[1]):
                values = values_of(rng, make, name, 4)
                for value in values:
                    for told in values + variants(rng, value):
                        self.assertIs(tells_alike(make, name, value, make, name, told), same(told, value))

    def test_any_plain_thing(self):
        for make in small_makes(334, 60):
            for value in values_of(random.Random(335), make, "a", 2):
                for thing in WRONG_THINGS + DEEP_THINGS:
                    right = same(thing, value) and is_value_plainly(make, "a", thing)
                    self.assertIs(tells_alike(make, "a", value, make, "a", thing), right)

    def test_what_is_handed_in_stays(self):
        for rng, make, name, value, other, other_name in self.pairs(336):
            for thing in [value, {"a": [1]}, [[], [value]]]:
                before = copy.deepcopy((make, value, other, thing))
                tells_alike(make, name, value, other, other_name, thing)
                self.assertEqual((make, value, other, thing), before)

    def test_deep_ones(self):
        make = ("a", {"a": ("row", "b", 3), "b": ("record", ((1, "x", "a", ((),)), (2, "y", "t", ())), ()), "t": TRUTH})
        other = ("a", {"a": ("row", "b", 3), "b": ("record", ((1, "x", "a", ((),)), (2, "y", "t", ())), ()), "t": ("whole", 0, 1)})
        value = nested((), [lambda thing: (((thing, True), ()),)], 45)
        for flag, right in [(1, True), (0, False), (True, False)]:
            innermost = (((((), flag), ()),),)[0]
            told = nested(innermost, [lambda thing: (((thing, 1), ()),)], 44)
            self.assertIs(tells_alike(make, "a", value, other, "a", told), right)


def grown(rng, make):
    """A make with other names, wider bounds and here and there a field or an arm less: much of it tells alike."""
    forms = {}
    for name, shape in make[1].items():
        if shape[0] == "whole":
            shape = TRUTH if shape[1:] == (0, 1) else ("whole", shape[1] - 1, shape[2])
        elif shape[0] == "truth":
            shape = ("whole", 0, 1)
        elif shape[0] in ("record", "choice"):
            members = tuple((number, "m" + letter, of) for (number, field, of), letter
                            in zip([member[:3] for member in shape[1] if rng.random() < 0.8], "abcde"))
            shape = ("choice", members, (), True) if shape[0] == "choice" else ("record", tuple(
                member + ((),) for member in members), ())
        forms[name] = shape
    return (make[0], forms)


if __name__ == "__main__":
    unittest.main()
