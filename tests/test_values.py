"""Points 2, 3, 4, 10 and 28: values of a form, and own ones."""

import copy
import random
import unittest

from makes.values import is_own, is_value
from tests.drawing import great_makes, small_makes, values_of, variants
from tests.samples import ALL_SIGNS, DEEP_THINGS, FORMS, MAKE, WRONG_THINGS, ZERO, in_all, in_arms, in_rows, nested
from tests.values_plainly import is_value_plainly

MOST = 10 ** 18
PLAIN_THINGS = WRONG_THINGS + DEEP_THINGS + [
    0, 1, 7, "a", "row", (0,), (True,), [0], ("a", 0), (("a", 0),), (("a", True),), ((), ()), ((0, True, ()), ()),
    ("arm", 1, 0), ("other", 1, ZERO), ("other", 9, ZERO), ZERO, ("rec", ()), ["arm", 1, 0], {"arm": 1}]


class Told(unittest.TestCase):
    def told(self, name, thing, right, own=None, make=MAKE):
        """Whether it is a value, and whether it is an own one (as it is a value where nothing is told of it)."""
        with self.subTest(name=name, thing=thing):
            before = copy.deepcopy(thing)
            self.assertIs(is_value(make, name, thing), right)
            self.assertIs(is_own(make, name, thing), right if own is None else own)
            self.assertEqual(thing, before)


class Singles(Told):
    def test_wholes(self):
        for n in [-5, -4, 0, 1, 69, 70]:
            self.told("n", n, True)
        for n in [-6, 71, MOST, 10 ** 39, -10 ** 39, True, False, None, "", "0", (), (0,), [0], {}, {0: 0}, ZERO]:
            self.told("n", n, False)
        make = ("n", {"n": ("whole", 1, 1), "o": ("whole", 0, 0), "all": ("whole", -MOST, MOST)})
        for name, thing, right in [("n", 1, True), ("n", True, False), ("n", 0, False), ("n", 2, False), ("o", 0, True),
                                   ("o", False, False), ("o", -1, False), ("o", 1, False), ("all", MOST, True),
                                   ("all", -MOST, True), ("all", MOST + 1, False), ("all", -MOST - 1, False)]:
            self.told(name, thing, right, make=make)

    def test_truths(self):
        for thing in [True, False]:
            self.told("t", thing, True)
        for thing in [0, 1, -1, 2, None, "", "True", "yes", (), (True,), [True], {}, {True: True}, ("truth",)]:
            self.told("t", thing, False)

    def test_texts(self):
        for text in ["", " ", "abcd", "    ", "~!\\\"", "Zz09"]:
            self.told("s", text, True)
        for thing in ["abcde", "     ", "a" * 201, None, True, 0, (), ("a",), ["a"], {}, {"a": "a"}, ("text", "a")]:
            self.told("s", thing, False)
        make = ("s", {"s": ("text", 0), "long": ("text", 200)})
        for name, thing, right in [("s", "", True), ("s", " ", False), ("long", "a" * 200, True), ("long", "a" * 201, False),
                                   ("long", ALL_SIGNS + ALL_SIGNS, True)]:
            self.told(name, thing, right, make=make)


class Rows(Told):
    def test_rows(self):
        for thing in [(), (0,), (70, -5), (1, 1, 1)]:
            self.told("r", thing, True)
        for thing in [(1, 1, 1, 1), [], [0], [0, 1], (71,), (0, 71), (71, 0), (True,), (0, False), (None,), ((),), (0, "0"),
                      {}, {0: 0}, None, True, 0, "", "0", ("row", ()), ((0,),), (ZERO,)]:
            self.told("r", thing, False)

    def test_maps(self):
        for thing in [(), (("a", True),), (("a", True), ("b", False)), (("a", False), ("aa", False)),
                      (("abcdefgh", True), ("b", True))]:
            self.told("m", thing, True)
        for thing in [(("a", True), ("b", True), ("c", True)), (("b", True), ("a", True)), (("a", True), ("a", True)),
                      (("aa", True), ("a", True)), [], [("a", True)], (["a", True],), (("a", 1),), (("a", None),), ("a",),
                      (("a",),), (("a", True, True),), ("a", True), (("", True),), (("A", True),), (("abcdefghi", True),),
                      (("a1", True),), ((1, True),), ((True, True),), ((None, True),), ((("a",), True),), {}, {"a": True},
                      None, True, 0, "", ({"a": True},), (("a", True), None), (("a", True), ("b", 0)), ("ab",)]:
            self.told("m", thing, False)

    def test_most_parts(self):
        for many in range(24):
            for most in [0, 1, 19, 20]:
                make = ("r", {"r": ("row", "t", most), "m": ("map", "t", most), "t": ("truth",)})
                self.told("r", (True,) * many, many <= most, make=make)
                pairs = tuple((letter, True) for letter in "abcdefghijklmnopqrstuvwxyz"[:many])
                self.told("m", pairs, many <= most, make=make)


class Records(Told):
    def record(self, others, right, known=(7, True, (1, 2))):
        self.told("rec", (known, others), right, right and others == ())

    def test_known(self):
        for known in [(7, True, ()), (0, False, (1, 2, 3)), (-5, True, (70,))]:
            self.record((), True, known)
        for known in [(), (7,), (7, True), (7, True, (), ()), (7, True, (), None), (71, True, ()), (7, 1, ()), (True, True, ()),
                      (7, True, []), (7, True, (0, 71)), (7, True, (1, 1, 1, 1)), [7, True, ()], (True, 7, ()), (7, None, ()),
                      (None, None, None), None, 7, "abc", {3: 7, 5: True, 9: ()}, {}, (7, "", ())]:
            self.record((), False, known)

    def test_a_default_is_no_value_of_a_field_that_must_be_there(self):
        make = ("rec", {"rec": ("record", ((1, "a", "t", ()), (2, "b", "t", (True,))), ()), "t": ("truth",)})
        for known, right in [((True, True), True), ((True,), False), ((True, ()), False), (((), True), False),
                             ((True, (True,)), False), ((None, True), False), ((True, None), False)]:
            self.told("rec", (known, ()), right, make=make)

    def test_others(self):
        for others in [(), ((1, ZERO),), ((4, ZERO),), ((2, ZERO), (6, ("text", "a"))), ((1, ZERO), (999, ("row", ()))),
                       ((8, ZERO), (10, ZERO)), tuple((number, ZERO) for number in range(10, 1000))]:
            self.record(others, True)
        for others in [((2, ZERO), (1, ZERO)), ((1, ZERO), (1, ZERO)), ((3, ZERO),), ((5, ZERO),), ((9, ("row", ())),),
                       ((1, ZERO), (3, ZERO)), ((1, ZERO), (9, ZERO)), ((0, ZERO),), ((1000, ZERO),), ((-1, ZERO),),
                       ((True, ZERO),), ((None, ZERO),), (("a", ZERO),), (((), ZERO),), ((1,),), ((1, ZERO, ZERO),), (1, ZERO),
                       (1,), ZERO, [], [(1, ZERO)], ([1, ZERO],), {}, {1: ZERO}, None, True, 0, "", "a", ((1, ZERO), None),
                       ((1, ZERO), ()), ((1, ZERO), (2, ZERO), (2, ZERO))]:
            self.record(others, False)

    def test_others_that_are_no_items(self):
        for thing in [None, True, 0, "", (), 7, [], {}, ("whole", True), ("whole", MOST + 1), ("text", "a" * 201),
                      ("truth", True), ("record", ()), ("row", []), ["whole", 0], ("rec", ((2, ZERO), (1, ZERO))),
                      ("map", (("A", ZERO),)), ("arm", 0, ZERO), ("arm", 1), ((7, True, ()), ()), ("arm", 1, 0)]:
            self.record(((1, thing),), False)
            self.record(((1, ZERO), (2, thing)), False)
            self.record(((1, thing), (2, ZERO)), False)
            self.record(((1, ("row", (ZERO, thing))),), False)

    def test_how_deep_an_item_of_others_is(self):
        for wrap in [in_rows, in_arms]:
            self.record(((1, wrap(ZERO, 99)),), True)
            self.record(((1, wrap(ZERO, 100)),), False)
        self.record(((1, in_all(ZERO, 33)),), True)
        self.record(((1, in_all(("row", ()), 33)),), True)
        self.record(((1, in_all(in_arms(ZERO, 1), 33)),), False)

    def test_an_item_of_others_is_looked_at_by_no_form(self):
        for item in [("whole", 71), ("text", "abcdefgh"), ("arm", 999, ZERO), ("rec", ((3, ("text", "")),)),
                     ("row", (ZERO, ("text", ""), ("map", ())))]:
            self.record(((1, item),), True)

    def test_struck_numbers_are_numbers_like_any_other(self):
        self.record(((1, ZERO), (4, ZERO)), True)
        self.told("wide", ("other", 7, ZERO), True, False)
        self.told("shut", ("other", 7, ZERO), False)

    def test_no_fields(self):
        make = ("a", {"a": ("record", (), ())})
        self.told("a", ((), ()), True, make=make)
        self.told("a", ((), ((1, ZERO),)), True, False, make=make)
        for thing in [(), ((),), ((), (), ()), [(), ()], ((), []), ([], ()), ((), None), (0, ()), None]:
            self.told("a", thing, False, make=make)

    def test_eight_fields(self):
        fields = tuple((number, "n" + letter, "t", ()) for number, letter in enumerate("abcdefgh", start=992))
        make = ("a", {"a": ("record", fields, ()), "t": ("truth",)})
        for many in range(7, 10):
            self.told("a", ((True,) * many, ()), many == 8, make=make)
        for place in range(8):
            self.told("a", ((True,) * place + (1,) + (True,) * (7 - place), ()), False, make=make)
            self.told("a", ((True,) * 8, ((992 + place, ZERO),)), False, make=make)
        self.told("a", ((True,) * 8, ((991, ZERO),)), True, False, make=make)

    def test_other_things(self):
        known = (7, True, ())
        for thing in [(), (known,), (known, (), ()), [known, ()], known, {"known": known}, None, True, 0, "", "ab",
                      ((), known), ("rec", ())]:
            self.told("rec", thing, False)


class Choices(Told):
    def test_arms(self):
        for name in ["shut", "wide"]:
            for n in [-5, 0, 70]:
                self.told(name, ("arm", 1, n), True)
            for n in [-6, 71, True, None, (), "", ("arm", 1, 0), ZERO]:
                self.told(name, ("arm", 1, n), False)
            for number in [0, 2, 3, 5, 7, 999, 1000, -1, True, False, None, "1", "a", (1,), (), [1]]:
                self.told(name, ("arm", number, 0), False)
        self.told("shut", ("arm", 4, ((7, True, ()), ())), True)
        self.told("shut", ("arm", 4, ((7, True, ()), ((1, ZERO),))), True, False)
        self.told("shut", ("arm", 4, 0), False)

    def test_others(self):
        for number in [2, 3, 5, 7, 999]:
            for item in [ZERO, ("text", "abcdefg"), ("rec", ()), in_rows(ZERO, 99), ("arm", 1, ZERO)]:
                self.told("wide", ("other", number, item), True, False)
                self.told("shut", ("other", number, item), False)
        for number in [1, 4, 0, 1000, -1, True, None, "2", (2,), [2], "a"]:
            self.told("wide", ("other", number, ZERO), False)
        for thing in [0, None, True, "", (), in_rows(ZERO, 100), ["whole", 0], ("whole", True), ("arm", 1, 0)]:
            self.told("wide", ("other", 2, thing), False)

    def test_other_things(self):
        for name in ["shut", "wide"]:
            for thing in [("arm", 1), ("arm", 1, 0, 0), ["arm", 1, 0], ("Arm", 1, 0), ("arms", 1, 0), (1, 0), ("other", 2),
                          ("others", 2, ZERO), ["other", 2, ZERO], ("other", 2, ZERO, ZERO), ("arm",), (), None, True, 0, "arm",
                          (("arm",), 1, 0), (None, 1, 0), (True, 1, 0), (("arm", 1, 0),), {"arm": 0}, 1, ("", 1, 0)]:
                self.told(name, thing, False)

    def test_no_arms(self):
        make = ("a", {"a": ("choice", (), (5,), True), "b": ("choice", (), (5,), False)})
        self.told("a", ("other", 1, ZERO), True, False, make=make)
        self.told("a", ("other", 5, ZERO), True, False, make=make)
        for thing in [("arm", 1, ZERO), ("arm", 5, 0), (), None]:
            self.told("a", thing, False, make=make)
        for thing in [("other", 1, ZERO), ("other", 5, ZERO), ("arm", 1, 0), (), None]:
            self.told("b", thing, False, make=make)


class Within(Told):
    """A thing within each sort of form, and what no one else knows deep within."""

    FORMS = {
        "row": ("row", "of", 3),
        "map": ("map", "row", 3),
        "rec": ("record", ((2, "a", "t", (True,)), (3, "b", "map", ())), ()),
        "arm": ("choice", ((1, "a", "rec"), (2, "b", "t")), (), False),
        "t": ("truth",),
    }

    def wrapped(self, thing):
        inner = ("arm", 1, ((False, (("a", ()), ("b", (thing,)))), ()))
        return {"arm": inner, "rec": inner[2], "map": inner[2][0][1], "row": (thing,), "of": thing}

    def told_within(self, shape, thing, right, own=None):
        make = ("arm", dict(self.FORMS, of=shape))
        for name, value in self.wrapped(thing).items():
            self.told(name, value, right, own, make)

    def test_kinds(self):
        self.told_within(("whole", 0, 1), 1, True)
        self.told_within(("truth",), True, True)
        self.told_within(("text", 2), "ab", True)
        for thing in [True, None, [], {}, "1", (1,)]:
            self.told_within(("whole", 0, 1), thing, False)
        for thing in [1, 0, None, [], {}, "", (True,)]:
            self.told_within(("truth",), thing, False)
        for thing in [1, True, None, ["ab"], {}, "abc", ("ab",)]:
            self.told_within(("text", 2), thing, False)
        for thing in [[], [True], {}, None, "", True, (True, True)]:
            self.told_within(("row", "t", 1), thing, False)
            self.told_within(("map", "t", 1), thing, False)

    def test_what_is_not_known(self):
        self.told_within(("record", (), ()), ((), ()), True)
        self.told_within(("record", (), ()), ((), ((1, ZERO),)), True, False)
        self.told_within(("record", (), ()), ((), ((1, 0),)), False)
        self.told_within(("record", (), ()), ((), []), False)
        self.told_within(("choice", ((5, "a", "t"),), (), True), ("arm", 5, True), True)
        self.told_within(("choice", ((5, "a", "t"),), (), True), ("other", 4, ZERO), True, False)
        self.told_within(("choice", ((5, "a", "t"),), (), False), ("other", 4, ZERO), False)
        self.told_within(("choice", ((5, "a", "t"),), (), True), ("other", 5, ZERO), False)

    def test_what_is_not_known_at_two_places(self):
        make = ("a", {"a": ("record", ((1, "x", "b", ()),), ()), "b": ("record", (), ())})
        some = ((7, ZERO),)
        for outer, inner in [((), ()), (some, ()), ((), some), (some, some)]:
            self.told("a", ((((), inner),), outer), True, outer == inner == (), make=make)


class RoundAndDeep(Told):
    def test_forms_that_go_round(self):
        make = ("r", {"r": ("row", "r", 2), "c": ("choice", ((1, "a", "c"), (2, "b", "t")), (), True), "t": ("truth",),
                      "e": ("record", ((1, "a", "e", ()),), ()), "f": ("choice", ((1, "a", "f"),), (), False)})
        self.told("r", (), True, make=make)
        self.told("r", ((), ((), ((),))), True, make=make)
        self.told("r", ((), ((), ((), (), ()))), False, make=make)
        self.told("r", ((), ((), ([],))), False, make=make)
        self.told("c", ("arm", 1, ("arm", 1, ("arm", 2, True))), True, make=make)
        self.told("c", ("arm", 1, ("arm", 1, ("other", 3, ZERO))), True, False, make=make)
        self.told("c", ("arm", 1, ("arm", 1, ("arm", 2, 1))), False, make=make)
        for thing in PLAIN_THINGS + [((((),), ()),), ((), ()), ((((), ()),), ())]:
            self.told("e", thing, False, make=make)
            self.told("f", thing, False, make=make)

    def test_as_deep_as_plain_things_may_be(self):
        make = ("r", {"r": ("row", "r", 2), "c": ("choice", ((1, "a", "c"), (2, "b", "t")), (), True), "t": ("truth",),
                      "m": ("map", "m", 1)})
        self.told("r", nested((), [lambda thing: (thing,)], 149), True, make=make)
        self.told("r", nested([], [lambda thing: (thing,)], 149), False, make=make)
        self.told("m", nested((), [lambda thing: (("a", thing),)], 74), True, make=make)
        self.told("m", nested((("a", True),), [lambda thing: (("a", thing),)], 73), False, make=make)
        self.told("c", nested(("arm", 2, True), [lambda thing: ("arm", 1, thing)], 148), True, make=make)
        self.told("c", nested(("arm", 2, 1), [lambda thing: ("arm", 1, thing)], 148), False, make=make)
        self.told("c", nested(("other", 2, ZERO), [lambda thing: ("arm", 1, thing)], 148), False, make=make)
        self.told("c", nested(("other", 3, ZERO), [lambda thing: ("arm", 1, thing)], 148), True, False, make=make)


class AnyThing(unittest.TestCase):
    def held(self, make, name, thing):
        value = is_value(make, name, thing)
        own = is_own(make, name, thing)
        if value is not is_value_plainly(make, name, thing) or own is not is_value_plainly(make, name, thing, True):
            self.fail(f"{make} {name} {thing}: {value}, {own}")
        return (value, own)

    def test_plain_things(self):
        for make in [MAKE] + great_makes(281, 40):
            for name in make[1]:
                for thing in PLAIN_THINGS:
                    self.held(make, name, thing)

    def test_values_of_one_form_as_another_ones(self):
        rng = random.Random(282)
        seen = []
        for make in small_makes(283, 150) + great_makes(284, 30):
            for name in sorted(make[1]):
                for own in [True, False]:
                    for value in values_of(rng, make, name, 8, own):
                        self.assertTrue(self.held(make, name, value)[0])
                        seen.extend(self.held(make, other, value) for other in make[1])
        for outcome in [(True, True), (True, False), (False, False)]:
            self.assertGreater(seen.count(outcome), 500)

    def test_values_with_something_turned(self):
        rng = random.Random(285)
        seen = []
        for make in small_makes(286, 100):
            for value in values_of(rng, make, "a", 4, False):
                seen.extend(self.held(make, "a", thing) for thing in variants(rng, value))
        for outcome in [(True, True), (True, False), (False, False)]:
            self.assertGreater(seen.count(outcome), 100)

    def test_the_order_of_names_is_no_matter(self):
        turned = ("rec", {name: FORMS[name] for name in sorted(FORMS, reverse=True)})
        for name in FORMS:
            for thing in PLAIN_THINGS:
                self.assertIs(is_value(MAKE, name, thing), is_value(turned, name, thing))

    def test_the_make_stays(self):
        make = copy.deepcopy(MAKE)
        for name in FORMS:
            for thing in PLAIN_THINGS:
                is_value(make, name, thing)
                is_own(make, name, thing)
        self.assertEqual(make, MAKE)
        self.assertEqual(list(make[1]), list(FORMS))

    def test_many_items(self):
        make = ("a", {"a": ("row", "b", 20), "b": ("row", "c", 20), "c": ("row", "n", 20), "n": ("whole", 0, 9)})
        value = (((9,) * 20,) * 20,) * 20
        self.assertIs(is_own(make, "a", value), True)
        self.assertIs(is_own(make, "a", value[:-1] + (value[0][:-1] + ((9,) * 19 + (10,),),)), False)


if __name__ == "__main__":
    unittest.main()
