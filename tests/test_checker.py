"""Points 2, 3, 5, 6 and 42 to 47: the small checker."""

import copy
import itertools
import random
import unittest

from makes.checker import is_right_pair, lets_keep, lets_read
from tests.drawing import make_pairs, values_of
from tests.papers_plainly import (
    all_pairs, empties_plainly, is_kept, is_read, lets_keep_plainly, lets_read_plainly, right_pair_plainly, struck)
from tests.samples import DEEP_THINGS, WRONG_THINGS, choice, record

TRUTH = ("truth",)
WIDE = ("whole", -9, 9)
# What the forms that are looked at are made of. "e" and "f" are empty.
PARTS = {"t": TRUTH, "n": ("whole", 0, 5), "s": ("text", 3), "q": ("row", "t", 3), "m": ("map", "t", 3),
         "e": choice(), "f": record("e")}
SAME = (("t", "t"), ("n", "n"), ("s", "s"), ("q", "q"), ("m", "m"))


class Held(unittest.TestCase):
    def pair(self, shape, other_shape, right, pairs=(), empties=()):
        """Whether ("a", "a") is right by the paper; the order within the paper, and what stands twice, is no matter."""
        make = ("a", dict(PARTS, a=shape))
        other = ("a", dict(PARTS, a=other_shape))
        with self.subTest(shape=shape, other_shape=other_shape, pairs=pairs, empties=empties):
            for paper in [(pairs, empties), (pairs[::-1], empties[::-1]), (pairs * 2, empties + empties)]:
                self.assertIs(is_right_pair(make, other, paper, ("a", "a")), right)
            self.assertIs(right_pair_plainly(make, other, pairs, empties, ("a", "a")), right)


class Singles(Held):
    def test_wholes(self):
        for low, high in [(-3, 4), (-3, 5), (-4, 4), (-9, 9), (-10 ** 18, 10 ** 18)]:
            self.pair(("whole", -3, 4), ("whole", low, high), True)
        for low, high in [(-2, 4), (-3, 3), (-2, 9), (-9, 3), (-2, 3), (0, 0), (5, 9), (-9, -4)]:
            self.pair(("whole", -3, 4), ("whole", low, high), False)
        self.pair(("whole", 10 ** 18, 10 ** 18), ("whole", -10 ** 18, 10 ** 18 - 1), False)

    def test_truths(self):
        self.pair(TRUTH, TRUTH, True)
        for low, high, right in [(0, 1, True), (-1, 1, True), (0, 2, True), (-9, 9, True), (1, 1, False), (0, 0, False),
                                 (1, 9, False), (-9, 0, False), (2, 9, False)]:
            self.pair(TRUTH, ("whole", low, high), right)
        for low, high, right in [(0, 1, True), (0, 0, True), (1, 1, True), (-1, 1, False), (0, 2, False), (2, 2, False),
                                 (-1, -1, False), (-9, 9, False)]:
            self.pair(("whole", low, high), TRUTH, right)

    def test_texts(self):
        for most, other_most, right in [(0, 0, True), (0, 9, True), (5, 5, True), (5, 6, True), (199, 200, True),
                                        (6, 5, False), (1, 0, False), (200, 199, False)]:
            self.pair(("text", most), ("text", other_most), right)

    def test_unlike_sorts(self):
        shapes = [WIDE, ("text", 3), ("row", "t", 3), ("map", "t", 3), ("record", (), ()), choice("t")]
        for one, other in itertools.permutations(shapes, 2):
            for paper in [((), ()), (SAME, ("e", "f"))]:
                self.pair(one, other, False, paper[0], paper[1])
        for other in shapes[1:]:
            self.pair(TRUTH, other, False, SAME)
            self.pair(other, TRUTH, False, SAME)
        self.pair(("row", "e", 0), ("map", "e", 0), False, (), ("e",))
        self.pair(choice(), ("record", (), ()), False)
        self.pair(choice(), choice(), True)


class Rows(Held):
    def test_most(self):
        for sort in ["row", "map"]:
            for most, other_most in itertools.product([0, 1, 2, 20], repeat=2):
                self.pair((sort, "t", most), (sort, "t", other_most), most <= other_most, SAME)

    def test_what_does_not_hold(self):
        for sort in ["row", "map"]:
            for pairs, right in [((), False), ((("t", "t"),), True), ((("t", "n"),), False), ((("n", "t"),), False),
                                 ((("a", "a"),), False)]:
                self.pair((sort, "t", 1), (sort, "t", 1), right, pairs)
                self.pair((sort, "t", 20), (sort, "t", 20), right, pairs)
            self.pair((sort, "t", 1), (sort, "n", 1), True, (("t", "n"),))
            self.pair((sort, "t", 1), (sort, "n", 1), False, (("t", "t"), ("n", "n"), ("n", "t")))

    def test_most_0(self):
        for sort in ["row", "map"]:
            for other_most in [0, 1, 20]:
                for of in ["t", "n", "a", "e"]:
                    self.pair((sort, "t", 0), (sort, of, other_most), True)
            self.pair((sort, "t", 1), (sort, "t", 0), False, SAME)

    def test_an_empty_of(self):
        for sort in ["row", "map"]:
            for most, other_most in itertools.product([0, 1, 20], repeat=2):
                self.pair((sort, "e", most), (sort, "t", other_most), True, (), ("e",))
                self.pair((sort, "e", most), (sort, "t", other_most), most == 0, (), ("f",))
            # What the paper calls empty is so for this pair, whatever it is; and the other make's name is no matter.
            self.pair((sort, "t", 5), (sort, "n", 1), True, (), ("t",))
            self.pair((sort, "t", 1), (sort, "e", 5), False, (), ("e",))

    def test_pairs_that_rest_on_themselves(self):
        for sort in ["row", "map"]:
            self.pair((sort, "a", 3), (sort, "a", 3), True, (("a", "a"),))
            self.pair((sort, "a", 3), (sort, "a", 3), False, ())


class Records(Held):
    def fields(self, one, other, right, pairs=SAME, empties=()):
        """one and other: tuples of fields without names."""
        shapes = [("record", tuple((field[0], "n" + letter) + field[1:] for field, letter in zip(fields, letters)), ())
                  for fields, letters in [(one, "abcdef"), (other, "fedcba")]]
        self.pair(shapes[0], shapes[1], right, pairs, empties)

    def test_no_fields(self):
        self.fields((), (), True, ())

    def test_a_field_of_both(self):
        self.fields(((1, "t", ()),), ((1, "t", ()),), True)
        self.fields(((1, "t", ()),), ((1, "t", ()),), False, ())
        self.fields(((1, "t", ()),), ((1, "n", ()),), False)
        self.fields(((1, "t", ()),), ((1, "n", ()),), True, (("t", "n"),))
        self.fields(((1, "t", ()), (2, "n", ())), ((1, "t", ()), (2, "n", ())), True)
        self.fields(((1, "t", ()), (2, "n", ())), ((1, "t", ()), (2, "n", ())), False, (("t", "t"),))
        self.fields(((1, "t", ()), (2, "n", ())), ((1, "t", ()), (2, "n", ())), False, (("n", "n"),))

    def test_names_are_no_matter(self):
        one = ("record", ((1, "x", "t", ()), (2, "y", "n", ())), ())
        other = ("record", ((1, "y", "t", ()), (2, "x", "n", ())), ())
        self.pair(one, other, True, SAME)

    def test_struck_numbers_are_no_matter(self):
        self.pair(("record", ((1, "x", "t", ()),), (2,)), ("record", (), (1, 2)), True)
        self.pair(("record", (), (1,)), ("record", ((1, "x", "t", (True,)),), ()), True)

    def test_an_empty_of(self):
        self.fields(((1, "e", ()),), ((1, "t", ()),), True, (), ("e",))
        self.fields(((1, "e", ()),), ((1, "t", ()),), False, (), ("f",))
        self.fields(((1, "e", ()),), ((1, "t", ()), (2, "t", ())), False, SAME, ("e",))
        self.fields(((1, "t", ()),), ((1, "e", ()),), False, (), ("e",))

    def test_must_be_there_and_may_be_left_out(self):
        self.fields(((1, "t", ()),), ((1, "t", (True,)),), True)
        self.fields(((1, "t", (True,)),), ((1, "t", ()),), False)
        self.fields(((1, "t", (True,)),), ((1, "t", ()),), False, SAME, ("t",))
        self.fields(((1, "t", (True,)),), ((1, "t", (True,)),), True)

    def test_defaults_alike_and_unlike(self):
        for of, one, other, right in [("t", True, True, True), ("t", True, False, False), ("t", False, True, False),
                                      ("n", 0, 0, True), ("n", 1, 1, True), ("n", 0, 1, False), ("n", 5, 4, False),
                                      ("s", "", "", True), ("s", "ab", "ab", True), ("s", "", " ", False), ("s", "a", "ab", False),
                                      ("q", (), (), True), ("m", (), (), True)]:
            self.fields(((4, of, (one,)),), ((4, of, (other,)),), right)
            self.fields(((4, of, (one,)),), ((4, of, (other,)),), False, ())

    def test_true_against_1(self):
        for one, other, right in [(True, 1, True), (False, 0, True), (True, 0, False), (False, 1, False), (True, 2, False)]:
            self.fields(((1, "t", (one,)),), ((1, "n", (other,)),), right, (("t", "n"),))
            self.fields(((1, "n", (other,)),), ((1, "t", (one,)),), right, (("n", "t"),))

    def test_defaults_of_unlike_sorts(self):
        for of, default in [("t", False), ("n", 0), ("s", ""), ("q", ()), ("m", ())]:
            for other_of, other_default in [("t", False), ("n", 0), ("s", ""), ("q", ()), ("m", ())]:
                right = of == other_of or {of, other_of} == {"t", "n"}
                self.fields(((1, of, (default,)),), ((1, other_of, (other_default,)),), right, ((of, other_of),))
                self.fields(((1, of, (default,)),), ((1, other_of, (other_default,)),), right, (), (of,))

    def test_one_that_the_other_alone_has(self):
        for of, default in [("t", True), ("n", 3), ("s", "ab"), ("q", ()), ("m", ())]:
            self.fields((), ((1, of, (default,)),), True, ())
            self.fields((), ((1, of, ()),), False)
            self.fields(((2, "t", ()),), ((1, of, (default,)), (2, "t", ()), (3, of, (default,))), True)
            self.fields(((2, "t", ()),), ((1, of, (default,)), (2, "t", ()), (3, of, ())), False)
            self.fields(((2, "t", ()),), ((1, of, ()), (2, "t", ()), (3, of, (default,))), False)
        self.fields((), ((1, "e", ()),), False, (), ("e",))

    def test_one_that_the_other_has_not(self):
        self.fields(((1, "t", ()), (2, "n", (3,))), (), True, ())
        self.fields(((1, "t", ()), (2, "n", (3,)), (3, "s", ())), ((2, "n", (3,)),), True, (("n", "n"),))


class Choices(Held):
    def test_no_arms(self):
        for wide, other_wide in itertools.product([True, False], repeat=2):
            self.pair(choice(wide=wide), choice(wide=other_wide), True)
            self.pair(choice(wide=wide), choice("t", wide=other_wide), True)

    def test_an_arm_of_both(self):
        for wide, other_wide in itertools.product([True, False], repeat=2):
            self.pair(choice("t", wide=wide), choice("t", wide=other_wide), True, SAME)
            self.pair(choice("t", wide=wide), choice("t", wide=other_wide), False, ())
            self.pair(choice("t", wide=wide), choice("n", wide=other_wide), False, SAME)
            self.pair(choice("t", wide=wide), choice("n", wide=other_wide), True, (("t", "n"),))
            self.pair(choice("t", "n", wide=wide), choice("t", "n", wide=other_wide), False, (("t", "t"),))
            self.pair(choice("t", "n", wide=wide), choice("t", "n", wide=other_wide), False, (("n", "n"),))
            self.pair(choice("t", "n", wide=wide), choice("t", "n", "e", wide=other_wide), True, SAME)

    def test_an_arm_that_is_not_there(self):
        for wide in [True, False]:
            self.pair(choice("t", "n", wide=wide), choice("t", wide=True), True, SAME)
            self.pair(choice("t", "n", wide=wide), choice("t", wide=False), False, SAME)
            self.pair(choice("n", wide=wide), choice(wide=True), True)
            self.pair(choice("n", wide=wide), choice(wide=False), False, SAME)
            self.pair(choice("n", wide=wide), ("choice", (), (1,), True), True)
            self.pair(choice("n", wide=wide), ("choice", (), (1,), False), False)

    def test_an_empty_of(self):
        for wide in [True, False]:
            self.pair(choice("e"), choice(wide=wide), True, (), ("e",))
            self.pair(choice("e"), choice("t", wide=wide), True, (), ("e",))
            self.pair(choice("e", "t"), choice("n", "t", wide=wide), True, SAME, ("e",))
            self.pair(choice("e", "t"), choice("n", "t", wide=wide), False, (), ("e",))
            self.pair(choice("e"), choice("t", wide=wide), False, (), ("f",))
            self.pair(choice("t"), choice("e", wide=wide), False, (), ("e",))

    def test_names_are_no_matter(self):
        self.pair(("choice", ((1, "x", "t"), (2, "y", "n")), (), False), ("choice", ((1, "y", "t"), (2, "x", "n")), (), False),
                  True, SAME)


class Papers(unittest.TestCase):
    """For two makes of a row of truths; a choice without arms, and what needs it, stand beside."""

    MAKE = ("a", {"a": ("row", "b", 3), "b": TRUTH, "e": choice(), "f": record("b", "e"), "g": choice("e", "f")})
    OTHER = ("x", {"x": ("row", "y", 3), "y": WIDE, "z": ("text", 3)})
    PAIRS = (("a", "x"), ("b", "y"))

    def told(self, paper, right, make=None, other=None):
        make = make or self.MAKE
        other = other or self.OTHER
        with self.subTest(paper=paper):
            before = copy.deepcopy(paper)
            self.assertIs(lets_read(make, other, paper), right)
            self.assertIs(lets_keep(make, other, paper), right)
            self.assertEqual(paper, before)

    def test_right_ones(self):
        self.told((self.PAIRS, ()), True)
        self.told((self.PAIRS[::-1], ()), True)
        self.told((self.PAIRS * 30, ()), True)
        for empties in [("e",), ("e", "f"), ("f", "e"), ("g", "f", "e"), ("e", "e", "f", "e")]:
            self.told((self.PAIRS, empties), True)

    def test_a_pair_that_is_not_right(self):
        for pair in [("a", "y"), ("b", "x"), ("a", "z"), ("b", "z"), ("e", "x"), ("f", "x"), ("g", "z")]:
            self.told((self.PAIRS + (pair,), ()), False)
            self.told(((pair,) + self.PAIRS, ("e", "f", "g")), False)
        self.told((self.PAIRS[:1], ()), False)

    def test_roots_that_do_not_hold(self):
        self.told((self.PAIRS[1:], ()), False)
        self.told(((), ()), False)
        self.told(((), ("e", "f", "g")), False)
        self.told((self.PAIRS, ()), False, ("b", self.MAKE[1]))
        self.told((self.PAIRS, ()), True, ("b", self.MAKE[1]), ("y", self.OTHER[1]))
        self.told((self.PAIRS, ()), False, self.MAKE, ("y", self.OTHER[1]))

    def test_an_empty_root(self):
        for root, empties, right in [("e", ("e",), True), ("f", ("e", "f"), True), ("f", ("e",), False), ("f", ("f",), False),
                                     ("g", ("e", "f", "g"), True), ("g", ("g", "e"), False), ("e", (), False)]:
            for other in [self.OTHER, ("z", self.OTHER[1])]:
                self.told(((), empties), right, (root, self.MAKE[1]), other)

    def test_one_of_the_empties_that_is_not_right(self):
        for empties in [("a",), ("b",), ("f",), ("g",), ("f", "g"), ("e", "g"), ("e", "b"), ("e", "f", "g", "a")]:
            self.told((self.PAIRS, empties), False)

    def test_empties_of_each_sort(self):
        forms = {"a": TRUTH, "b": WIDE, "c": ("text", 0), "d": ("row", "e", 3), "m": ("map", "e", 0), "e": choice(),
                 "h": ("record", (), ())}
        for name in forms:
            self.told(((("a", "y"),), (name,)), name == "e", ("a", forms), ("y", self.OTHER[1]))
            self.told(((("a", "y"),), ("e", name)), name == "e", ("a", forms), ("y", self.OTHER[1]))

    def test_empty_records(self):
        def root(shape, empties, right):
            forms = {"a": shape, "e": choice(), "t": TRUTH, "r": ("row", "e", 3)}
            self.told(((), empties), right, ("a", forms))

        root(record("e"), ("a", "e"), True)
        root(record("t", "e", "t"), ("a", "e"), True)
        root(record("t"), ("a", "e"), False)
        root(record("a"), ("a",), True)
        root(record("t", "a"), ("a",), True)
        root(record(), ("a", "e"), False)
        root(record("r"), ("a", "e"), False)
        root(record(left_out=[("r", ())]), ("a", "e"), False)
        root(record("e", left_out=[("r", ())]), ("a", "e"), True)
        # What may be left out makes no record empty, not even if the paper calls its form so.
        root(record(left_out=[("r", ())]), ("a", "r"), False)

    def test_empty_choices(self):
        for wide in [True, False]:
            forms = {"a": choice("a", "e", wide=wide), "e": choice(wide=wide), "t": choice("e", "u", wide=wide), "u": TRUTH}
            self.told(((), ("a", "e")), True, ("a", forms))
            self.told(((), ("a",)), False, ("a", forms))
            self.told(((), ("a", "e", "t")), False, ("a", forms))
            self.told(((), ("e", "t")), False, ("t", forms))

    def test_no_papers(self):
        pairs = self.PAIRS
        for paper in WRONG_THINGS + DEEP_THINGS + [
                (pairs,), (pairs, (), ()), [pairs, ()], (list(pairs), ()), (pairs, []), (pairs, ["e"]), pairs, {pairs: ()},
                ((list(pairs[0]), pairs[1]), ()), (pairs + (("a",),), ()), (pairs + (("a", "x", "x"),), ()), (pairs + ("ax",), ()),
                (pairs + ((),), ()), (pairs + (None,), ()), (pairs + (("a", ["x"]),), ()), (pairs + ((["a"], "x"),), ()),
                (pairs + ((("a",), "x"),), ()), (pairs, None), (pairs, "e"), (pairs, {}), (pairs, {"e": True}), (pairs, True),
                (None, ()), ("", ()), ("ax", ()), ({}, ()), (dict(pairs), ()), (pairs, (("e",),)), (pairs, (["e"],)),
                (pairs, (None,)), (pairs, ("e", None)), (pairs, (True,)), (pairs, (0,)), (pairs, ({},)), (pairs, ((),)),
                (pairs + ((True, "x"),), ()), (pairs + (("a", True),), ()), (pairs + ((None, None),), ()), (pairs + ((1, 2),), ()),
                (pairs + (({}, []),), ()), ((pairs, ()),), ("paper", (pairs, ())), ((), pairs), (True, False)]:
            self.told(paper, False)

    def test_names_that_are_no_forms(self):
        for pair in [("q", "x"), ("a", "q"), ("x", "a"), ("x", "x"), ("a", "a"), ("", "x"), ("a", ""), ("A", "x"), ("b", "b")]:
            self.told((self.PAIRS + (pair,), ()), False)
            self.told(((pair,) + self.PAIRS, ()), False)
        for name in ["q", "x", "y", "", "E", "ee"]:
            self.told((self.PAIRS, (name,)), False)
            self.told((self.PAIRS, ("e", name)), False)

    def test_the_order_of_names_is_no_matter(self):
        make = ("a", {name: self.MAKE[1][name] for name in sorted(self.MAKE[1], reverse=True)})
        other = ("x", {name: self.OTHER[1][name] for name in sorted(self.OTHER[1], reverse=True)})
        self.told((self.PAIRS, ("e", "f")), True, make, other)
        self.told((self.PAIRS, ("f",)), False, make, other)


class Keeping(unittest.TestCase):
    def field(self, shape, other_shape, default, kept, pairs=()):
        """A field that must be there in the one make and may be left out in the other."""
        make = ("a", {"a": ("record", ((1, "x", "of", ()),), ()), "of": shape, "t": TRUTH})
        other = ("a", {"a": ("record", ((1, "x", "of", (default,)),), ()), "of": other_shape, "t": TRUTH})
        paper = ((("a", "a"), ("of", "of")) + pairs, ())
        with self.subTest(shape=shape, other_shape=other_shape, default=default):
            self.assertIs(lets_read(make, other, paper), True)
            self.assertIs(lets_keep(make, other, paper), kept)
            self.assertIs(lets_keep_plainly(make, other, paper), kept)
            # Where it may be left out in the one, too, or must be there in the other, nothing is asked.
            must = ("a", dict(other[1], a=make[1]["a"]))
            self.assertIs(lets_keep(make, must, paper), True)

    def test_wholes(self):
        for low, high in [(2, 5), (3, 3), (-9, 3), (3, 9), (-9, 9)]:
            self.field(("whole", low, high), WIDE, 3, False)
        for low, high in [(-9, 2), (4, 9), (4, 4), (2, 2), (-9, -9)]:
            self.field(("whole", low, high), WIDE, 3, True)

    def test_truths(self):
        for default in [True, False]:
            self.field(TRUTH, TRUTH, default, False)
        for default, kept in [(0, False), (1, False), (2, True), (-1, True), (9, True)]:
            self.field(TRUTH, WIDE, default, kept)
        for low, high, default, kept in [(0, 1, True, False), (0, 1, False, False), (0, 0, True, True), (0, 0, False, False),
                                         (1, 1, True, False), (1, 1, False, True)]:
            self.field(("whole", low, high), TRUTH, default, kept)

    def test_texts(self):
        for most, default, kept in [(3, "", False), (3, "abc", False), (3, "abcd", True), (0, "", False), (0, "a", True),
                                    (5, "abcd", False), (4, "abcd", False), (3, "    ", True)]:
            self.field(("text", most), ("text", 5), default, kept)

    def test_rows_and_maps(self):
        for sort in ["row", "map"]:
            for most in [0, 1, 20]:
                self.field((sort, "t", most), (sort, "t", 20), (), False, (("t", "t"),))

    def test_an_empty_of(self):
        make = ("b", {"a": record("e"), "e": choice(), "b": TRUTH})
        other = ("b", {"a": record(left_out=[("b", True)]), "b": TRUTH})
        paper = ((("b", "b"), ("a", "a")), ("e",))
        self.assertIs(lets_read(make, other, paper), True)
        self.assertIs(lets_keep(make, other, paper), True)
        other = ("b", {"a": record(left_out=[("r", ())]), "b": TRUTH, "r": ("row", "b", 3)})
        self.assertIs(lets_keep(make, other, paper), True)

    def test_what_is_not_let_by_for_reading(self):
        make = ("a", {"a": record("t"), "t": TRUTH})
        for paper in [((("a", "a"),), ()), ((("t", "t"),), ()), ((), ()), None, [], ((("a", "a"), ("t", "t")), ("a",))]:
            self.assertIs(lets_keep(make, make, paper), False)
        self.assertIs(lets_keep(make, make, ((("a", "a"), ("t", "t")), ())), True)

    def test_of_each_of_its_pairs(self):
        """Also of such as nothing leads to."""
        make = ("t", {"t": TRUTH, "a": record("t")})
        other = ("t", {"t": TRUTH, "a": record(left_out=[("t", True)]), "b": record("t"), "c": record(left_out=[("n", 2)]),
                       "n": WIDE})
        for names, kept in [("", True), ("b", True), ("a", False), ("c", True), ("bc", True), ("abc", False), ("cba", False)]:
            paper = ((("t", "t"), ("t", "n")) + tuple(("a", name) for name in names), ())
            self.assertIs(lets_read(make, other, paper), True)
            self.assertIs(lets_keep(make, other, paper), kept)

    def test_of_each_number_that_both_have(self):
        make = ("a", {"a": record("t", "t", "t"), "t": TRUTH})
        for left_out in itertools.product([True, False], repeat=3):
            fields = tuple((number, "n" + letter, "t", (True,) if out else ()) for number, letter, out
                           in zip([1, 2, 3], "abc", left_out))
            other = ("a", {"a": ("record", fields, ()), "t": TRUTH})
            self.assertIs(lets_keep(make, other, ((("a", "a"), ("t", "t")), ())), not any(left_out))
        other = ("a", {"a": ("record", ((1, "x", "t", ()), (9, "y", "t", (True,))), ()), "t": TRUTH})
        self.assertIs(lets_keep(make, other, ((("a", "a"), ("t", "t")), ())), True)

    def test_defaults_of_both(self):
        make = ("a", {"a": record(left_out=[("t", True)]), "t": TRUTH})
        self.assertIs(lets_keep(make, make, ((("a", "a"), ("t", "t")), ())), True)


def some_papers(rng, make, other):
    """Papers of any kind, more and less right; some of them let by."""
    pairs = all_pairs(make, other)
    names = sorted(make[1])
    roots = (make[0], other[0])
    for keeping in [True, False]:
        yield struck(make, other, pairs, names, keeping)
        yield struck(make, other, pairs, (), keeping)
        some = rng.sample(pairs, rng.randint(0, len(pairs))) + [roots]
        yield struck(make, other, some, rng.sample(names, rng.randint(0, len(names))), keeping)
    yield struck(make, other, [pair for pair in pairs if pair[0] not in empties_plainly(make)], names)
    paper = struck(make, other, pairs, names)
    yield (paper[0] + (rng.choice(pairs),), paper[1])
    yield (paper[0], paper[1] + (rng.choice(names),))
    if paper[0]:
        left = rng.choice(paper[0])
        yield (tuple(pair for pair in paper[0] if pair != left), paper[1])
    if paper[1]:
        yield (paper[0], paper[1][1:])
    yield (tuple(rng.sample(pairs, rng.randint(0, min(4, len(pairs))))), ())
    yield ((roots,), paper[1])


class WhoeverWroteIt(unittest.TestCase):
    def test_as_the_document_tells(self):
        rng = random.Random(471)
        seen = {"read": [0, 0], "keep": [0, 0], "pair": [0, 0]}
        read_alone = 0
        for make, other in make_pairs(472, 500):
            for paper in some_papers(rng, make, other):
                let = lets_read(make, other, paper)
                self.assertIs(let, lets_read_plainly(make, other, paper), (make, other, paper))
                keeps = lets_keep(make, other, paper)
                self.assertIs(keeps, lets_keep_plainly(make, other, paper), (make, other, paper))
                seen["read"][let] += 1
                seen["keep"][keeps] += 1
                read_alone += let and not keeps
                for pair in rng.sample(all_pairs(make, other), 2) if len(make[1]) > 1 else []:
                    right = is_right_pair(make, other, paper, pair)
                    self.assertIs(right, right_pair_plainly(make, other, paper[0], paper[1], pair))
                    seen["pair"][right] += 1
        for some in seen.values():
            self.assertGreater(min(some), 500)
        self.assertGreater(read_alone, 20)

    def test_what_is_let_by_is_so(self):
        rng = random.Random(473)
        read = 0
        kept = 0
        for make, other in make_pairs(474, 500):
            values = values_of(rng, make, make[0], 12)
            for paper in dict.fromkeys(some_papers(rng, make, other)):
                if lets_read(make, other, paper):
                    for value in values:
                        self.assertTrue(is_read(make, other, value), (make, other, paper, value))
                    read += len(values)
                if lets_keep(make, other, paper):
                    for value in values:
                        self.assertTrue(is_kept(make, other, value), (make, other, paper, value))
                    kept += len(values)
        self.assertGreater(kept, 5000)
        self.assertGreater(read, kept)

    def test_each_pair_is_so(self):
        """Not only of the roots: each pair of a paper that is let by reads, each of the empties has no own value."""
        rng = random.Random(475)
        seen = 0
        for make, other in make_pairs(476, 200):
            for paper in dict.fromkeys(some_papers(rng, make, other)):
                if lets_read(make, other, paper):
                    for w, r in paper[0]:
                        for value in values_of(rng, make, w, 3):
                            self.assertTrue(is_read(make, other, value, w, r), (make, other, paper, value))
                            seen += 1
                    for name in paper[1]:
                        self.assertEqual(values_of(rng, make, name, 3), [])
        self.assertGreater(seen, 2000)

    def test_all_papers_of_small_makes(self):
        shapes = [TRUTH, choice(), choice("b"), record("b"), record("a", "b"), ("row", "b", 1), choice("a", "b", wide=True)]
        for one, other_one in itertools.product(shapes, repeat=2):
            make = ("a", {"a": one, "b": TRUTH})
            other = ("a", {"a": other_one, "b": ("whole", 0, 1)})
            values = values_of(random.Random(477), make, "a", 6)
            for many in range(5):
                for pairs in itertools.combinations(all_pairs(make, other), many):
                    for empties in [(), ("a",), ("b",), ("a", "b")]:
                        if lets_read(make, other, (pairs, empties)):
                            self.assertTrue(all(is_read(make, other, value) for value in values))
                        if lets_keep(make, other, (pairs, empties)):
                            self.assertTrue(all(is_kept(make, other, value) for value in values))

    def test_what_is_handed_in_stays(self):
        rng = random.Random(478)
        for make, other in make_pairs(479, 100):
            for paper in some_papers(rng, make, other):
                before = copy.deepcopy((make, other, paper))
                lets_read(make, other, paper)
                lets_keep(make, other, paper)
                is_right_pair(make, other, paper, (make[0], other[0]))
                self.assertEqual((make, other, paper), before)


if __name__ == "__main__":
    unittest.main()
