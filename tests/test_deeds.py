"""Points 2, 58, 59 and 61: the make that comes of a deed, of several, and the words by which a deed is refused."""

import copy
import itertools
import random
import unittest

from makes.deeds import all_done, done
from makes.errors import BadDeed, MakeError
from makes.forms import is_make
from tests.deeds_plainly import make_plainly, right_deeds, some_deed, words_plainly
from tests.drawing import great_makes, linked_make, small_make, variants
from tests.samples import DEEP_THINGS, WRONG_THINGS, choice, record
from tests.values_plainly import same

TRUTH = ("truth",)
REC = ("record", ((2, "b", "n", (3,)), (5, "a", "t", ())), (1, 9))
SHUT = ("choice", ((2, "b", "n"), (5, "a", "rec")), (1, 9), False)
FORMS = {"n": ("whole", 0, 5), "t": TRUTH, "s": ("text", 4), "r": ("row", "n", 3), "m": ("map", "t", 2),
         "rec": REC, "shut": SHUT}
MAKE = ("rec", FORMS)
MOST = 10 ** 18


def same_make(one, other):
    """The order of names is no matter."""
    return (same(one[0], other[0]) and type(one) is tuple and len(one) == 2 and type(one[1]) is dict
            and sorted(one[1]) == sorted(other[1]) and all(same(one[1][name], other[1][name]) for name in other[1]))


class Held(unittest.TestCase):
    def told(self, deed, make=MAKE, **forms):
        """All forms stay but those told."""
        self.made(deed, make, forms)

    def made(self, deed, make, forms):
        with self.subTest(deed=deed, make=make):
            before = copy.deepcopy((make, deed))
            made = done(make, deed)
            self.assertTrue(same_make(made, (make[0], dict(make[1], **forms))), made)
            self.assertTrue(is_make(made))
            self.assertEqual((make, deed), before)
            made[1].clear()
            self.assertTrue(same_make(done(make, deed), (make[0], dict(make[1], **forms))))
            self.assertEqual((make, deed), before)

    def refused(self, deed, word, make=MAKE):
        with self.subTest(deed=deed, make=make):
            before = copy.deepcopy((make, deed))
            for call in [lambda: done(make, deed), lambda: all_done(make, [deed]),
                         lambda: all_done(make, [("rename", "rec", 2, "b"), deed]) if make == MAKE else done(make, deed)]:
                with self.assertRaises(BadDeed) as caught:
                    call()
                self.assertTrue(same(caught.exception.word, word), caught.exception.word)
                self.assertIsInstance(caught.exception, MakeError)
            self.assertTrue(same(deed, before[1]))
            self.assertEqual(make, before[0])


class Done(Held):
    def test_add(self):
        for field, fields in [
                ((3, "c", "n", (0,)), ((2, "b", "n", (3,)), (3, "c", "n", (0,)), (5, "a", "t", ()))),
                ((4, "zz", "t", (True,)), ((2, "b", "n", (3,)), (4, "zz", "t", (True,)), (5, "a", "t", ()))),
                ((999, "aa", "r", ((),)), ((2, "b", "n", (3,)), (5, "a", "t", ()), (999, "aa", "r", ((),)))),
                ((6, "c", "m", ((),)), ((2, "b", "n", (3,)), (5, "a", "t", ()), (6, "c", "m", ((),)))),
                ((10, "abcdefgh", "s", ("abcd",)), ((2, "b", "n", (3,)), (5, "a", "t", ()), (10, "abcdefgh", "s", ("abcd",))))]:
            self.told(("add", "rec", field), rec=("record", fields, (1, 9)))
        make = ("a", {"a": record(), "s": ("text", 0)})
        self.told(("add", "a", (1, "x", "s", ("",))), make, a=("record", ((1, "x", "s", ("",)),), ()))

    def test_strike(self):
        self.told(("strike", "rec", 2), rec=("record", ((5, "a", "t", ()),), (1, 2, 9)))
        self.told(("strike", "rec", 5), rec=("record", ((2, "b", "n", (3,)),), (1, 5, 9)))
        self.told(("strike", "shut", 2), shut=("choice", ((5, "a", "rec"),), (1, 2, 9), False))
        self.told(("strike", "shut", 5), shut=("choice", ((2, "b", "n"),), (1, 5, 9), False))
        make = ("a", {"a": ("choice", ((500, "x", "a"), (501, "y", "a")), (2, 999), True)})
        self.told(("strike", "a", 501), make, a=("choice", ((500, "x", "a"),), (2, 501, 999), True))
        make = ("a", {"a": ("record", ((7, "x", "a", ()),), ())})
        self.told(("strike", "a", 7), make, a=("record", (), (7,)))

    def test_rename(self):
        self.told(("rename", "rec", 2, "zz"), rec=("record", ((2, "zz", "n", (3,)), (5, "a", "t", ())), (1, 9)))
        self.told(("rename", "rec", 5, "abcdefgh"), rec=("record", ((2, "b", "n", (3,)), (5, "abcdefgh", "t", ())), (1, 9)))
        self.told(("rename", "rec", 2, "b"))
        self.told(("rename", "shut", 5, "zz"), shut=("choice", ((2, "b", "n"), (5, "zz", "rec")), (1, 9), False))
        self.told(("rename", "shut", 2, "rec"), shut=("choice", ((2, "rec", "n"), (5, "a", "rec")), (1, 9), False))
        self.told(("rename", "shut", 5, "a"))

    def test_widen(self):
        for name, shape in [("n", ("whole", 0, 5)), ("n", ("whole", -1, 5)), ("n", ("whole", 0, 6)), ("n", ("whole", -MOST, MOST)),
                            ("s", ("text", 4)), ("s", ("text", 5)), ("s", ("text", 200)), ("r", ("row", "n", 3)),
                            ("r", ("row", "n", 4)), ("r", ("row", "n", 20)), ("m", ("map", "t", 2)), ("m", ("map", "t", 20))]:
            self.told(("widen", name, shape), **{name: shape})

    def test_arm(self):
        for arm, arms in [((3, "c", "rec"), ((2, "b", "n"), (3, "c", "rec"), (5, "a", "rec"))),
                          ((999, "aa", "shut"), ((2, "b", "n"), (5, "a", "rec"), (999, "aa", "shut"))),
                          ((4, "zz", "n"), ((2, "b", "n"), (4, "zz", "n"), (5, "a", "rec")))]:
            self.told(("arm", "shut", arm), shut=("choice", arms, (1, 9), False))
        make = ("a", {"a": choice(wide=True)})
        self.told(("arm", "a", (8, "x", "a")), make, a=("choice", ((8, "x", "a"),), (), True))

    def test_open(self):
        self.told(("open", "shut"), shut=SHUT[:3] + (True,))
        wide = ("shut", dict(FORMS, shut=SHUT[:3] + (True,)))
        self.told(("open", "shut"), wide)

    def test_form(self):
        for shape in [TRUTH, ("whole", 3, 3), ("text", 0), ("row", "n", 2), ("row", "new", 2), ("map", "new", 20), record(),
                      record("n", "new"), record("n", left_out=[("r", ()), ("n", 5)]), choice(), choice("new", "t", wide=True)]:
            self.told(("form", "new", shape), new=shape)
        self.told(("form", "abcdefgh", TRUTH), abcdefgh=TRUTH)

    def test_at_the_bounds(self):
        """The eighth of each."""
        seven = tuple((number, "n" + letter, "t", ()) for number, letter in zip(range(1, 8), "abcdefg"))
        make = ("a", {"a": ("record", seven, ()), "t": TRUTH})
        field = (8, "x", "t", (True,))
        self.told(("add", "a", field), make, a=("record", seven + (field,), ()))
        arms = tuple(field[:3] for field in seven)
        make = ("a", {"a": ("choice", arms, (), False), "t": TRUTH})
        self.told(("arm", "a", (8, "x", "t")), make, a=("choice", arms + ((8, "x", "t"),), (), False))
        make = ("a", {"a": ("record", ((8, "x", "a", ()),), (1, 2, 3, 4, 5, 6, 7))})
        self.told(("strike", "a", 8), make, a=("record", (), (1, 2, 3, 4, 5, 6, 7, 8)))
        make = ("a", {name: TRUTH for name in "abcdefg"})
        self.told(("form", "h", TRUTH), make, h=TRUTH)

    def test_the_root_stays(self):
        for root in FORMS:
            for deed in [("open", "shut"), ("strike", "rec", 2), ("form", "new", TRUTH)]:
                self.assertEqual(done((root, FORMS), deed)[0], root)


class Refused(Held):
    RIGHT = [("add", "rec", (3, "c", "n", (0,))), ("strike", "rec", 2), ("rename", "rec", 2, "zz"), ("widen", "n", ("whole", 0, 6)),
             ("arm", "shut", (3, "c", "n")), ("open", "shut"), ("form", "new", TRUTH)]

    def test_deed(self):
        for thing in WRONG_THINGS + DEEP_THINGS:
            self.refused(thing, "deed")
            self.refused((thing, "rec", 2), "deed")
            self.refused((thing,), "deed")
        for deed in self.RIGHT:
            done(MAKE, deed)
            for wrong in [list(deed), deed[:-1], deed + (None,), deed + deed[-1:], (deed,), deed[:1], (deed[0].upper(),) + deed[1:],
                          (deed[0] + " ",) + deed[1:], ((deed[0],),) + deed[1:], ([deed[0]],) + deed[1:], dict(enumerate(deed))]:
                self.refused(wrong, "deed")
        for word in ["", "field", "make", "turn", "shut", "read", "record", "deed"]:
            for many in range(1, 5):
                self.refused((word, "rec", 2, "zz")[:many], "deed")

    def test_form(self):
        for deed in self.RIGHT[:-1]:
            for name in ["x", "REC", "rec ", "", 1, True, None, ["rec"], ("rec",), {}, [], {"rec": 1}] + DEEP_THINGS:
                self.refused((deed[0], name) + deed[2:], "form")
                self.refused((deed[0], name) + (None, None)[:len(deed) - 2], "form")
        for name in ["rec", "n", "shut", "abcdefghi", "", "New", "new ", "n1", 1, True, None, ["new"], ("new",), {}] + DEEP_THINGS:
            self.refused(("form", name, TRUTH), "form")
            self.refused(("form", name, None), "form")

    def test_sort(self):
        right = {"add": ["rec"], "strike": ["rec", "shut"], "rename": ["rec", "shut"], "widen": ["n", "s", "r", "m"],
                 "arm": ["shut"], "open": ["shut"]}
        for deed in self.RIGHT[:-1]:
            for name in FORMS:
                if name not in right[deed[0]]:
                    self.refused((deed[0], name) + deed[2:], "sort")
                    self.refused((deed[0], name) + (None, None)[:len(deed) - 2], "sort")

    def test_things(self):
        for thing in WRONG_THINGS + DEEP_THINGS:
            for deed in [("add", "rec"), ("strike", "rec"), ("strike", "shut"), ("widen", "n"), ("widen", "r"), ("arm", "shut"), ("form", "new")]:
                self.refused(deed + (thing,), "thing")
            for name in ["rec", "shut"]:
                self.refused(("rename", name, thing, "zz"), "thing")
                self.refused(("rename", name, thing, 1), "thing")
                if thing != "a":
                    self.refused(("rename", name, 2, thing), "thing")
                    self.refused(("rename", name, 3, thing), "thing")

    def test_fields_and_arms(self):
        for wrong in [(3, "c", "n"), (3, "c", "n", 0), (3, "c", "n", [0]), (3, "c", "n", (0, 0)), (3, "c", "n", None), [3, "c", "n", (0,)],
                      (0, "c", "n", (0,)), (1000, "c", "n", (0,)), (True, "c", "n", (0,)), ("3", "c", "n", (0,)), (3, "C", "n", (0,)),
                      (3, "abcdefghi", "n", (0,)), (3, "", "n", (0,)), (3, "c", "N", (0,)), (3, "c", 5, (0,)), (3, "c", "abcdefghi", (0,)),
                      (3, "c", ("n",), (0,)), (3, "c", "n", (0,), 0), (2, "b", "n"), (2, "b", "", ())]:
            self.refused(("add", "rec", wrong), "thing")
        for wrong in [(3, "c"), (3, "c", "n", ()), (3, "c", "n", (0,)), [3, "c", "n"], (0, "c", "n"), (1000, "c", "n"), (True, "c", "n"),
                      (-3, "c", "n"), (3, "C", "n"), (3, "abcdefghi", "n"), (3, "", "n"), (3, "c", "N"), (3, "c", 5), (3, "c", ["n"]), (2, "b", "")]:
            self.refused(("arm", "shut", wrong), "thing")

    def test_numbers_that_are_none(self):
        for name in ["rec", "shut"]:
            for number in [0, -1, 1000, True, "2", (2,), [2], None]:
                self.refused(("strike", name, number), "thing")
                self.refused(("rename", name, number, "zz"), "thing")
                self.refused(("rename", name, number, "b"), "thing")

    def test_shapes_that_are_none(self):
        for wrong in [("whole", 6, 5), ("whole", 0), ["whole", 0, 6], ("whole", 0, True), ("whole", 0, 10 ** 18 + 1), ("text", 201), ("text", -1),
                      ("row", "n", 21), ("row", "N", 3), ("truth", 1), ("map", "n"), ("record", (), (), ()), ("choice", (), ()), ("rec", ())]:
            for name in ["n", "s", "r", "m"]:
                self.refused(("widen", name, wrong), "thing")
            self.refused(("form", "new", wrong), "thing")

    def test_number(self):
        for number in [1, 2, 5, 9]:
            for name, of, default in [("c", "n", (0,)), ("c", "n", ()), ("a", "n", (0,)), ("b", "zz", (7,)), ("c", "n", (7,))]:
                self.refused(("add", "rec", (number, name, of, default)), "number")
                self.refused(("arm", "shut", (number, name, of)), "number")
        for number in [1, 3, 9, 999]:
            for name in ["rec", "shut"]:
                self.refused(("strike", name, number), "number")
                for other in ["zz", "a", "b"]:
                    self.refused(("rename", name, number, other), "number")

    def test_name(self):
        for name in ["a", "b"]:
            for of, default in [("n", (0,)), ("n", ()), ("zz", (0,)), ("n", (9,))]:
                self.refused(("add", "rec", (3, name, of, default)), "name")
                self.refused(("arm", "shut", (3, name, of)), "name")
        for form in ["rec", "shut"]:
            self.refused(("rename", form, 2, "a"), "name")
            self.refused(("rename", form, 5, "b"), "name")

    def test_must(self):
        for of in ["n", "t", "rec", "shut", "zz"]:
            self.refused(("add", "rec", (3, "c", of, ())), "must")
        full = ("a", {"a": record(*"tttttttt"), "t": TRUTH})
        self.refused(("add", "a", (9, "x", "t", ())), "must", full)

    def test_narrow(self):
        for name, shape in [
                ("n", ("whole", 1, 5)), ("n", ("whole", 0, 4)), ("n", ("whole", 1, 9)), ("n", ("whole", -9, 4)), ("n", TRUTH), ("n", ("text", 200)),
                ("s", ("text", 3)), ("s", ("text", 0)), ("s", ("row", "n", 20)), ("r", ("row", "n", 2)), ("r", ("row", "t", 3)), ("r", ("row", "zz", 20)),
                ("r", ("map", "n", 3)), ("m", ("map", "t", 1)), ("m", ("map", "n", 20)), ("m", ("row", "t", 2)), ("m", record()), ("n", choice()),
                ("r", ("whole", -MOST, MOST)), ("n", record("zz"))]:
            self.refused(("widen", name, shape), "narrow")

    def test_make_too_many(self):
        full = ("a", {"a": record(*"tttttttt"), "t": TRUTH})
        self.refused(("add", "a", (9, "x", "t", (True,))), "make", full)
        full = ("a", {"a": choice(*"tttttttt"), "t": TRUTH})
        self.refused(("arm", "a", (9, "x", "t")), "make", full)
        for shape in [("record", ((9, "x", "a", ()),), (1, 2, 3, 4, 5, 6, 7, 8)), ("choice", ((9, "x", "a"),), (1, 2, 3, 4, 5, 6, 7, 8), True)]:
            self.refused(("strike", "a", 9), "make", ("a", {"a": shape}))
        self.refused(("form", "i", TRUTH), "make", ("a", {name: TRUTH for name in "abcdefgh"}))

    def test_make_with_a_form_that_is_not_there(self):
        self.refused(("add", "rec", (3, "c", "zz", (0,))), "make")
        self.refused(("arm", "shut", (3, "c", "zz")), "make")
        for shape in [("row", "zz", 3), ("map", "zz", 0), record("zz"), record("n", "zz"), choice("n", "zz")]:
            self.refused(("form", "new", shape), "make")

    def test_make_with_a_default_that_is_no_value(self):
        for of, default in [("n", 6), ("n", -1), ("n", True), ("n", "0"), ("n", ()), ("t", 1), ("t", 0), ("t", None), ("s", "abcde"), ("s", 0),
                            ("r", (1,)), ("r", []), ("r", None), ("m", (("a", True),)), ("m", {}), ("rec", ((3, True), ())), ("rec", ()),
                            ("shut", ("arm", 2, 0)), ("shut", ())] + [("n", thing) for thing in DEEP_THINGS]:
            self.refused(("add", "rec", (3, "c", of, (default,))), "make")
            self.refused(("form", "new", ("record", ((3, "c", of, (default,)),), ())), "make")


class AllDone(Held):
    def test_of_no_deeds(self):
        makes = all_done(MAKE, [])
        self.assertIs(type(makes), list)
        self.assertEqual(len(makes), 1)
        self.assertTrue(same_make(makes[0], MAKE))
        makes[0][1].clear()
        self.assertEqual(len(FORMS), 7)

    def test_each_make_stands_apart(self):
        deeds = [("open", "shut"), ("open", "shut"), ("strike", "shut", 2), ("form", "new", TRUTH)]
        wanted = [MAKE]
        for deed in deeds:
            wanted.append(make_plainly(wanted[-1], deed))
        before = copy.deepcopy((MAKE, deeds))
        for place in range(5):
            makes = all_done(MAKE, deeds)
            self.assertEqual(len(makes), 5)
            makes[place][1].clear()
            for k in range(5):
                self.assertEqual(same_make(makes[k], wanted[k]), k != place)
            self.assertEqual((MAKE, deeds), before)

    def test_the_first_that_is_refused(self):
        wrongs = [(None, "deed"), (("open", "zz"), "form"), (("open", "n"), "sort"), (("strike", "rec", 0), "thing"), (("strike", "rec", 3), "number"),
                  (("rename", "rec", 2, "a"), "name"), (("add", "rec", (3, "c", "n", ())), "must"), (("widen", "s", ("text", 3)), "narrow"),
                  (("arm", "shut", (3, "c", "zz")), "make")]
        for (one, word), (other, other_word) in itertools.product(wrongs, repeat=2):
            for deeds in [[one, other], [("open", "shut"), one, other], [one, ("open", "shut"), other]]:
                with self.assertRaises(BadDeed) as caught:
                    all_done(MAKE, deeds)
                self.assertEqual(caught.exception.word, word)

    def test_a_deed_is_looked_at_by_the_make_ahead_of_it(self):
        for deeds, word in [([("strike", "rec", 2), ("add", "rec", (2, "c", "n", (0,)))], "number"),
                            ([("strike", "rec", 2), ("strike", "rec", 2)], "number"),
                            ([("form", "new", TRUTH), ("form", "new", TRUTH)], "form"),
                            ([("rename", "rec", 2, "c"), ("add", "rec", (3, "c", "n", (0,)))], "name"),
                            ([("widen", "s", ("text", 9)), ("widen", "s", ("text", 8))], "narrow"),
                            ([("arm", "shut", (3, "c", "new")), ("form", "new", TRUTH)], "make")]:
            with self.assertRaises(BadDeed) as caught:
                all_done(MAKE, deeds)
            self.assertEqual(caught.exception.word, word)
        makes = all_done(MAKE, [("form", "new", TRUTH), ("arm", "shut", (3, "c", "new")), ("rename", "rec", 2, "c"),
                                ("add", "rec", (3, "b", "n", (0,)))])
        self.assertEqual(makes[4][1]["rec"][1], ((2, "c", "n", (3,)), (3, "b", "n", (0,)), (5, "a", "t", ())))
        self.assertTrue(same_make(makes[0], MAKE))


class Drawn(Held):
    def held(self, make, deed):
        words = words_plainly(make, deed)
        if words:
            self.refused(deed, words[0], make)
            return words[0]
        wanted = make_plainly(make, deed)
        self.made(deed, make, {deed[1]: wanted[1][deed[1]]})
        return "done"

    def test_any_deed(self):
        rng = random.Random(591)
        seen = {}
        for turn in range(3000):
            make = rng.choice([small_make, linked_make])(rng)
            word = self.held(make, some_deed(rng, make))
            seen[word] = seen.get(word, 0) + 1
        for word in ["done", "form", "sort", "thing", "number", "name", "must", "narrow", "make"]:
            self.assertGreater(seen.get(word, 0), 10, word)

    def test_deeds_with_something_turned(self):
        rng = random.Random(592)
        for turn in range(60):
            make = linked_make(rng)
            for deed in [some_deed(rng, make)] + right_deeds(rng, make, 1)[0]:
                for other in rng.sample(variants(rng, deed), 20):
                    self.held(make, other)

    def test_great_makes(self):
        rng = random.Random(593)
        for make in great_makes(594, 150):
            for turn in range(6):
                self.held(make, some_deed(rng, make))

    def test_several(self):
        rng = random.Random(595)
        for turn in range(100):
            make = linked_make(rng)
            deeds, last = right_deeds(rng, make, rng.randint(0, 12))
            before = copy.deepcopy((make, deeds))
            makes = all_done(make, deeds)
            self.assertEqual((make, deeds), before)
            self.assertEqual(len(makes), len(deeds) + 1)
            self.assertTrue(same_make(makes[0], make) and same_make(makes[-1], last))
            for one, deed, other in zip(makes, deeds, makes[1:]):
                self.assertTrue(same_make(done(one, deed), other))

    def test_the_order_of_names_is_no_matter(self):
        rng = random.Random(596)
        for turn in range(200):
            make = linked_make(rng)
            other = (make[0], {name: make[1][name] for name in sorted(make[1], reverse=True)})
            deed = some_deed(rng, make)
            if words_plainly(make, deed):
                self.refused(deed, words_plainly(make, deed)[0], other)
            else:
                self.assertTrue(same_make(done(make, deed), done(other, deed)))


if __name__ == "__main__":
    unittest.main()
