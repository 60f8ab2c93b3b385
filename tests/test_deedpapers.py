"""Points 2, 5, 60 and 61: the papers that deeds bring."""

import copy
import random
import unittest

from makes.checker import lets_keep
from makes.deciding import keeps, reads
from makes.deedpapers import deed_paper, deeds_paper
from makes.deeds import all_done, done
from makes.errors import BadDeed
from tests.deeds_plainly import WORDS, make_plainly, right_deeds, some_deed, words_plainly
from tests.drawing import great_makes, linked_make, small_make, values_of
from tests.papers_plainly import empties_plainly, is_kept, is_read
from tests.samples import DEEP_THINGS, WRONG_THINGS, choice, record
from tests.values_plainly import same

TRUTH = ("truth",)
# "e" is empty, and so is "f", which needs it.
FORMS = {"n": ("whole", 0, 5), "t": TRUTH, "r": ("row", "n", 3), "rec": record("t", left_out=[("n", 3)]),
         "shut": choice("n", "rec", "f"), "e": choice(), "f": record("t", "e"), "wide": choice("n", "shut", "e", wide=True)}
MAKE = ("rec", FORMS)
PAPER = (tuple((name, name) for name in ["n", "r", "rec", "shut", "t", "wide"]), ("e", "f"))
RIGHT = [("add", "rec", (4, "x", "r", ((),))), ("add", "f", (4, "x", "r", ((),))), ("strike", "rec", 1), ("strike", "rec", 2),
         ("strike", "f", 2), ("rename", "rec", 1, "x"), ("rename", "wide", 3, "x"), ("widen", "n", ("whole", -1, 9)),
         ("widen", "r", ("row", "n", 9)), ("arm", "shut", (9, "x", "t")), ("arm", "e", (9, "x", "t")), ("arm", "wide", (9, "x", "wide")),
         ("open", "shut"), ("open", "wide"), ("open", "e")]


class Held(unittest.TestCase):
    def told(self, make, deeds, paper):
        with self.subTest(make=make, deeds=deeds):
            before = copy.deepcopy((make, deeds))
            self.assertTrue(same(deeds_paper(make, deeds), paper))
            self.assertTrue(lets_keep(make, all_done(make, deeds)[-1], paper))
            if len(deeds) == 1:
                self.assertTrue(same(deed_paper(make, deeds[0]), paper))
            self.assertEqual((make, deeds), before)
            self.assertTrue(same(deeds_paper(make, deeds), paper))

    def refused(self, make, deeds, word):
        with self.subTest(make=make, deeds=deeds):
            before = copy.deepcopy((make, deeds))
            self.refusal(lambda: deeds_paper(make, deeds), word)
            if len(deeds) == 1:
                self.refusal(lambda: deed_paper(make, deeds[0]), word)
            self.assertEqual((make, deeds), before)

    def refusal(self, call, word):
        with self.assertRaises(BadDeed) as caught:
            call()
        self.assertTrue(same(caught.exception.word, word), caught.exception.word)


class OneDeed(Held):
    def test_each_deed(self):
        for deed in RIGHT:
            for root in FORMS:
                self.told((root, FORMS), [deed], PAPER)

    def test_a_form_more(self):
        forms = {name: FORMS[name] for name in ["n", "t", "e"]}
        for shape in [TRUTH, choice(), record("e"), ("row", "new", 3)]:
            self.told(("e", forms), [("form", "new", shape)], ((("n", "n"), ("t", "t")), ("e",)))

    def test_the_empties_are_the_elder_ones(self):
        """What the deed empties, or fills, is as it was ahead of it."""
        make = ("a", {"a": choice("b", "t", wide=True), "b": choice("t", wide=True), "t": TRUTH})
        self.told(make, [("strike", "b", 1)], ((("a", "a"), ("b", "b"), ("t", "t")), ()))
        make = ("a", {"a": record("b"), "b": choice(), "t": TRUTH})
        self.told(make, [("arm", "b", (1, "x", "t"))], ((("t", "t"),), ("a", "b")))
        self.told(make, [("strike", "a", 1)], ((("t", "t"),), ("a", "b")))

    def test_refused_as_done(self):
        for thing in WRONG_THINGS + DEEP_THINGS:
            self.refused(MAKE, [thing], "deed")
        for deed, word in [(("open", "x"), "form"), (("open", "n"), "sort"), (("strike", "shut", 0), "thing"), (("strike", "shut", 9), "number"),
                           (("rename", "shut", 1, "nb"), "name"), (("add", "rec", (9, "x", "n", ())), "must"),
                           (("widen", "n", TRUTH), "narrow"), (("arm", "shut", (9, "x", "zz")), "make")]:
            self.refused(MAKE, [deed], word)
        full = ("a", {"a": ("choice", ((9, "x", "t"),), (1, 2, 3, 4, 5, 6, 7, 8), False), "t": TRUTH})
        self.refused(full, [("strike", "a", 9)], "make")

    def test_shut(self):
        for root in FORMS:
            for number in [1, 2]:
                self.refused((root, FORMS), [("strike", "shut", number)], "shut")

    def test_not_of_an_arm_of_an_empty_form(self):
        self.told(MAKE, [("strike", "shut", 3)], PAPER)
        make = ("a", {"a": choice("e"), "e": choice(), "t": TRUTH})
        self.told(make, [("strike", "a", 1)], ((("t", "t"),), ("a", "e")))
        make = ("a", {"a": choice("a"), "t": TRUTH})
        self.told(make, [("strike", "a", 1)], ((("t", "t"),), ("a",)))

    def test_not_of_an_open_choice(self):
        for number in [1, 2, 3]:
            self.told(MAKE, [("strike", "wide", number)], PAPER)
        make = ("a", {"a": choice("t", wide=True), "t": TRUTH})
        self.told(make, [("strike", "a", 1)], ((("a", "a"), ("t", "t")), ()))

    def test_where_it_is_shut_some_value_is_read_no_more(self):
        make = ("shut", FORMS)
        for number in [1, 2]:
            last = done(make, ("strike", "shut", number))
            self.assertEqual(reads(make, last)[0], "value")
        self.assertTrue(is_read(make, done(make, ("strike", "shut", 1)), ("arm", 2, ((True, 3), ()))))
        self.assertFalse(is_read(make, done(make, ("strike", "shut", 1)), ("arm", 1, 0)))


class Several(Held):
    def test_of_no_deeds(self):
        for root in FORMS:
            self.told((root, FORMS), [], PAPER)

    def test_of_many(self):
        self.told(MAKE, [("strike", "rec", 1), ("strike", "wide", 1), ("open", "shut"), ("strike", "shut", 1), ("add", "e", 3)][:4], PAPER)
        deeds = [("arm", "shut", (9, "x", "t")), ("rename", "shut", 9, "y"), ("strike", "rec", 2), ("widen", "n", ("whole", 0, 6))]
        self.told(MAKE, deeds, PAPER)

    def test_refused_as_the_first_that_is_refused(self):
        wrong = ("open", "n")
        for deeds in [[wrong], [("open", "wide"), wrong], [wrong, None], [("strike", "shut", 1), wrong], [wrong, ("strike", "shut", 1)],
                      [("strike", "shut", 1), ("open", "wide"), wrong, ("strike", "rec", 9)]]:
            self.refused(MAKE, deeds, "sort")

    def test_shut(self):
        self.refused(MAKE, [("strike", "shut", 1)], "shut")
        self.refused(MAKE, [("strike", "shut", 3), ("strike", "shut", 1), ("open", "wide")], "shut")
        self.refused(MAKE, [("open", "wide"), ("strike", "rec", 1), ("strike", "shut", 2)], "shut")

    def test_opened_ahead_of_the_strike_or_behind_it(self):
        for deeds in [[("strike", "shut", 1), ("open", "shut")], [("open", "shut"), ("strike", "shut", 1)],
                      [("strike", "shut", 1), ("strike", "shut", 2), ("open", "shut")]]:
            self.told(MAKE, deeds, PAPER)
        self.refused(MAKE, [("strike", "shut", 1), ("open", "wide")], "shut")

    def test_an_arm_that_came_and_went(self):
        deeds = [("arm", "shut", (9, "x", "t")), ("strike", "shut", 9)]
        self.told(MAKE, deeds, PAPER)
        self.refused(done(MAKE, deeds[0]), deeds[1:], "shut")

    def test_a_form_that_is_emptied_ahead_of_the_strike(self):
        """Each deed has its paper; all of them have none."""
        make = ("a", {"a": choice("b", "t"), "b": choice("t", wide=True), "t": TRUTH})
        deeds = [("strike", "b", 1), ("strike", "a", 1)]
        makes = all_done(make, deeds)
        for one, deed in zip(makes, deeds):
            deed_paper(one, deed)
        self.refused(make, deeds, "shut")
        self.refused(make, deeds[1:] + deeds[:1], "shut")

    def test_a_form_that_is_filled_ahead_of_the_strike(self):
        """A deed has no paper; all of them have one."""
        make = ("a", {"a": choice("b", "t"), "b": choice(), "t": TRUTH})
        deeds = [("arm", "b", (1, "x", "t")), ("strike", "a", 1)]
        self.refused(done(make, deeds[0]), deeds[1:], "shut")
        self.told(make, deeds, ((("a", "a"), ("t", "t")), ("b",)))
        self.told(make, deeds[1:] + deeds[:1], ((("a", "a"), ("t", "t")), ("b",)))

    def test_a_choice_without_own_values(self):
        make = ("a", {"a": choice("b"), "b": record("b"), "t": TRUTH})
        self.told(make, [("arm", "a", (2, "x", "t")), ("strike", "a", 1), ("strike", "a", 2)], ((("t", "t"),), ("a", "b")))

    def test_forms_that_came_later_are_in_no_pair(self):
        make = ("t", {"t": TRUTH})
        self.told(make, [("form", "a", TRUTH), ("form", "b", choice("a")), ("strike", "b", 1)], ((("t", "t"),), ()))


class Drawn(Held):
    def wanted(self, make):
        empties = empties_plainly(make)
        return (tuple((name, name) for name in sorted(make[1]) if name not in empties), empties)

    def is_shut(self, make, last):
        empties = empties_plainly(make)
        for name, shape in make[1].items():
            if shape[0] == "choice" and name not in empties and not last[1][name][3]:
                lost = {arm[0] for arm in shape[1] if arm[2] not in empties} - {arm[0] for arm in last[1][name][1]}
                if lost:
                    return True
        return False

    def test_any_deed(self):
        rng = random.Random(601)
        seen = {"paper": 0, "shut": 0}
        for turn in range(1200):
            make = rng.choice([small_make, linked_make])(rng)
            deed = some_deed(rng, make, WORDS + ["strike"] * 6 * (turn % 2))
            words = words_plainly(make, deed)
            if words:
                self.refused(make, [deed], words[0])
            elif self.is_shut(make, make_plainly(make, deed)):
                self.refused(make, [deed], "shut")
                self.assertEqual((deed[0], make[1][deed[1]][0]), ("strike", "choice"))
                self.assertEqual(reads((deed[1], make[1]), (deed[1], make_plainly(make, deed)[1]))[0], "value")
                seen["shut"] += 1
            else:
                self.told(make, [deed], self.wanted(make))
                self.assertEqual(keeps(make, done(make, deed))[0], "paper")
                seen["paper"] += 1
        self.assertGreater(seen["shut"], 10)
        self.assertGreater(seen["paper"], 300)

    def test_several(self):
        rng = random.Random(611)
        seen = {"paper": 0, "shut": 0}
        for turn in range(300):
            make = rng.choice([small_make, linked_make])(rng)
            deeds, last = right_deeds(rng, make, rng.randint(0, 8), WORDS + ["strike"] * 6 + ["arm"] * 3)
            if self.is_shut(make, last):
                self.refused(make, deeds, "shut")
                seen["shut"] += 1
                continue
            self.told(make, deeds, self.wanted(make))
            seen["paper"] += 1
            for value in values_of(rng, make, make[0], 3):
                self.assertTrue(is_kept(make, last, value))
        self.assertGreater(min(seen.values()), 15)

    def test_great_makes(self):
        for make in great_makes(612, 60):
            self.told(make, [], self.wanted(make))

    def test_the_order_of_names_is_no_matter(self):
        for deed in RIGHT:
            self.told(("rec", {name: FORMS[name] for name in sorted(FORMS, reverse=True)}), [deed], PAPER)


if __name__ == "__main__":
    unittest.main()
