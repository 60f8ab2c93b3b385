"""Points 2, 70 and 71: whether one make turns into another, and right answers of reading and of turning."""

import copy
import itertools
import random
import unittest

from makes.checker import lets_keep, lets_read
from makes.deciding import keeps, reads
from makes.items import count_of, deep_of
from makes.lessening import lessened
from makes.turning import knows, lets_answer, lets_turn, turns
from makes.values import is_own, is_value
from makes.writing import written
from tests.drawing import great_makes, make_pairs, small_makes, values_of, variants
from tests.papers_plainly import (all_pairs, empties_plainly, is_kept, is_read, is_turned, knows_plainly, lessened_plainly, struck,
                                  turn_paper_plainly)
from tests.samples import DEEP_THINGS, WRONG_THINGS, choice, record
from tests.values_plainly import same

TRUTH = ("truth",)
NUMBER = ("whole", 0, 5)
# "e" is empty; of "one", "no", "rn" and "mn" there is one own value alone, of "re" and "me" too.
PARTS = {"t": TRUTH, "n": NUMBER, "s": ("text", 3), "one": ("whole", 4, 4), "no": ("text", 0), "e": choice()}
ROWS = {"t": TRUTH, "e": choice(), "rn": ("row", "t", 0), "mn": ("map", "t", 0), "re": ("row", "e", 3), "me": ("map", "e", 3)}


class Knows(unittest.TestCase):
    def told(self, shape, other_shape, wanted, parts=PARTS, empties=(), pair=("a", "a")):
        make = ("t", dict(parts, a=shape))
        other = ("t", dict(parts, a=other_shape))
        with self.subTest(shape=shape, other_shape=other_shape, empties=empties):
            for pairs in [(pair,), (pair, pair), (("t", "t"), pair), (pair, ("t", "t"))]:
                self.assertIs(knows(make, other, (pairs, empties)), wanted)

    def test_of_no_pairs(self):
        make = ("a", {"a": record("a")})
        self.assertIs(knows(make, make, ((), ())), True)
        self.assertIs(knows(make, make, ((), ("a",))), True)

    def test_records_with_each_field_there(self):
        self.told(record(), record(), True)
        self.told(record("t", "n"), record("s", "s", "s"), True)
        self.told(record("t"), record(left_out=[("t", True)]), True)
        self.told(record(left_out=[("t", True)]), record("t"), True)
        self.told(("record", ((1, "x", "t", ()),), (5,)), ("record", ((1, "y", "t", ()),), ()), True)

    def test_records_with_a_field_that_lacks(self):
        self.told(record("t"), record(), False)
        self.told(record("t", "n"), record("t"), False)
        self.told(record("t"), ("record", (), (1,)), False)
        self.told(record("e"), record(), False)
        self.told(record("e"), record(), False, empties=("e",))

    def test_fields_that_are_never_written(self):
        for of, default, wanted in [("t", True, False), ("n", 0, False), ("s", "", False), ("s", "abc", False), ("one", 4, True), ("no", "", True)]:
            self.told(record(left_out=[(of, default)]), record(), wanted)
            self.told(record(of), record(), False)
            self.told(record("t", left_out=[(of, default)]), record("t"), wanted)
            self.told(record(of, left_out=[(of, default)]), record(of), wanted)
        self.told(record(left_out=[("one", 4), ("t", True)]), record(), False)
        self.told(record(left_out=[("one", 4), ("no", "")]), record(), True)

    def test_rows_and_maps_that_are_never_written(self):
        for of, wanted, by_empties in [("rn", True, True), ("mn", True, True), ("re", False, True), ("me", False, True)]:
            self.told(record(left_out=[(of, ())]), record(), wanted, ROWS)
            self.told(record(left_out=[(of, ())]), record(), wanted, ROWS, empties=("t",))
            self.told(record(left_out=[(of, ())]), record(), by_empties, ROWS, empties=("e",))
            self.told(record(of), record(), False, ROWS)
            self.told(record(of), record(), False, ROWS, empties=("e",))
        parts = {"t": TRUTH, "r": ("row", "t", 1), "m": ("map", "t", 1)}
        for of in ["r", "m"]:
            self.told(record(left_out=[(of, ())]), record(), False, parts)
            self.told(record(left_out=[(of, ())]), record(), False, parts, empties=(of,))

    def test_a_truth_is_never_one_alone(self):
        for default in [True, False]:
            self.told(record(left_out=[("t", default)]), record(), False)
        self.told(record(left_out=[("w", 0)]), record(), False, {"t": TRUTH, "w": ("whole", 0, 1)})
        self.told(record(left_out=[("w", 0)]), record(), True, {"t": TRUTH, "w": ("whole", 0, 0)})

    def test_choices(self):
        for wide, other_wide in itertools.product([True, False], repeat=2):
            self.told(choice("t", "n", wide=wide), choice("s", "t", "n", wide=other_wide), True)
            self.told(choice(wide=wide), choice(wide=other_wide), True)
            self.told(choice("t", "n", wide=wide), choice("t", wide=other_wide), False)
            self.told(choice("t", "e", wide=wide), choice("t", wide=other_wide), False)
            self.told(choice("t", "e", wide=wide), choice("t", wide=other_wide), True, empties=("e",))
            self.told(choice("t", "e", wide=wide), choice("t", wide=other_wide), False, empties=("t",))
            self.told(choice("one", "no", wide=wide), choice(wide=other_wide), False)
            self.told(choice("t", wide=wide), ("choice", (), (1,), other_wide), False)

    def test_pairs_of_other_sorts(self):
        shapes = [TRUTH, NUMBER, ("text", 2), ("row", "t", 2), ("map", "t", 2), record("t"), choice("t")]
        for shape, other_shape in itertools.product(shapes, repeat=2):
            self.told(shape, other_shape, True)
        self.told(record("t"), choice(), True)
        self.told(choice("t"), record(), True)
        self.told(record("t"), ("row", "t", 0), True)

    def test_each_pair_is_asked(self):
        make = ("a", {"a": record("t"), "b": choice("t"), "t": TRUTH})
        other = ("a", {"a": record("t"), "b": choice(), "c": record(), "t": TRUTH})
        for pairs, wanted in [((("a", "a"),), True), ((("a", "c"),), False), ((("a", "a"), ("a", "c")), False),
                              ((("b", "b"), ("a", "a")), False), ((("a", "b"), ("b", "a"), ("t", "t")), True)]:
            self.assertIs(knows(make, other, (pairs, ())), wanted)

    def test_drawn(self):
        rng = random.Random(701)
        seen = []
        for make, other in make_pairs(702, 500):
            pairs = tuple(rng.choice(all_pairs(make, other)) for place in range(rng.choice([1, 1, 2, 4])))
            for empties in [(), empties_plainly(make), tuple(sorted(make[1]))]:
                told = knows(make, other, (pairs, empties))
                seen.append(told)
                self.assertIs(told, knows_plainly(make, other, (pairs, empties)), (make, other, pairs, empties))
        self.assertGreater(seen.count(False), 100)


class Held(unittest.TestCase):
    def held(self, make, other):
        before = copy.deepcopy((make, other))
        told = turns(make, other)
        self.assertEqual((make, other), before)
        self.assertIs(type(told), tuple)
        self.assertEqual(len(told), 2)
        self.assertIs(lets_turn(make, other, told), True, (make, other, told))
        if told[0] == "paper":
            self.assertTrue(lets_keep(make, other, told[1]) and knows_plainly(make, other, told[1]))
        else:
            self.assertEqual(told[0], "value")
            self.assertTrue(is_own(make, make[0], told[1]), (make, other, told))
            self.assertFalse(is_turned(make, other, told[1]), (make, other, told))
            item = written(make, make[0], told[1])
            self.assertLessEqual(count_of(item), 50000)
            self.assertLessEqual(deep_of(item), 90)
        return told[0]

    def told(self, make, other, word):
        with self.subTest(make=make, other=other):
            self.assertEqual(self.held(make, other), word)


class OneThing(Held):
    """Makes that are unlike in one thing: by itself, and deep within rows, maps, records and arms."""

    def makes(self, shape, parts):
        forms = dict({"t": TRUTH, "e": choice(), "r": ("row", "t", 3)}, of=shape)
        forms.update(parts)
        yield ("of", forms)
        for around in [("row", "of", 3), ("map", "of", 3), record("t", "of"), choice("t", "of", wide=True)]:
            yield ("w", dict(forms, w=around))
        yield ("w", dict(forms, w=("row", "x", 2), x=record("t", "y"), y=choice("w", "of")))
        yield ("w", dict(forms, w=record("t", left_out=[("x", ())]), x=("map", "of", 2)))

    def one(self, shape, other_shape, word, parts=(), other_parts=None):
        other_parts = parts if other_parts is None else other_parts
        for make, other in zip(self.makes(shape, dict(parts)), self.makes(other_shape, dict(other_parts))):
            self.told(make, other, word)

    def test_single_ones(self):
        self.one(NUMBER, NUMBER, "paper")
        self.one(NUMBER, ("whole", -1, 6), "paper")
        self.one(NUMBER, ("whole", 1, 5), "value")
        self.one(NUMBER, ("whole", 0, 4), "value")
        self.one(TRUTH, ("whole", 0, 1), "paper")
        self.one(("whole", 0, 1), TRUTH, "paper")
        self.one(("whole", 0, 2), TRUTH, "value")
        self.one(("text", 3), ("text", 3), "paper")
        self.one(("text", 3), ("text", 4), "paper")
        self.one(("text", 3), ("text", 2), "value")

    def test_rows_and_maps(self):
        for sort in ["row", "map"]:
            self.one((sort, "t", 3), (sort, "t", 3), "paper")
            self.one((sort, "t", 3), (sort, "t", 2), "value")
            self.one((sort, "t", 2), (sort, "r", 2), "value")
            self.one((sort, "t", 0), (sort, "r", 2), "paper")
            self.one((sort, "e", 3), (sort, "r", 0), "paper")

    def test_unlike_sorts(self):
        shapes = [NUMBER, ("text", 0), ("row", "t", 0), ("map", "t", 0), record(), choice("t")]
        for one, other in itertools.product(shapes, repeat=2):
            self.one(one, other, "paper" if one == other else "value")

    def test_fields(self):
        self.one(record("t"), record("t"), "paper")
        self.one(record("t"), record("r"), "value")
        self.one(record("t"), record(), "value")
        self.one(record("t", "t"), record("t"), "value")
        self.one(record(), record("t"), "value")
        self.one(record(), record(left_out=[("t", True)]), "paper")
        self.one(record("t"), record(left_out=[("t", True)]), "value")
        self.one(record(left_out=[("t", True)]), record(left_out=[("t", True)]), "paper")
        self.one(record(left_out=[("t", True)]), record(left_out=[("t", False)]), "value")
        self.one(record(left_out=[("t", True)]), record("t"), "value")

    def lacks(self, shape, default, word):
        """A field that the other hasn't."""
        self.one(record("t", left_out=[("p", default)]), record("t"), word, {"p": shape})
        self.one(record("t", "p"), record("t"), "value", {"p": shape})

    def test_fields_that_lack(self):
        for default in [True, False]:
            self.lacks(TRUTH, default, "value")
        for low, high in [(0, 5), (0, 1), (-10 ** 18, 10 ** 18), (7, 8), (-3, -2)]:
            for default in {low, high, (low + high) // 2}:
                self.lacks(("whole", low, high), default, "value")
        for only in [0, 1, 7, -10 ** 18]:
            self.lacks(("whole", only, only), only, "paper")
        for default in ["", "a", "b", "abc"]:
            self.lacks(("text", 3), default, "value")
        self.lacks(("text", 1), "", "value")
        self.lacks(("text", 1), "a", "value")
        self.lacks(("text", 0), "", "paper")
        for sort in ["row", "map"]:
            self.lacks((sort, "t", 1), (), "value")
            self.lacks((sort, "t", 20), (), "value")
            self.lacks((sort, "p", 1), (), "value")
            self.lacks((sort, "t", 0), (), "paper")
            self.lacks((sort, "e", 20), (), "paper")

    def test_several_fields_that_lack(self):
        parts = {"p": ("whole", 4, 4), "q": ("text", 0)}
        self.one(record(left_out=[("p", 4), ("q", "")]), record(), "paper", parts)
        self.one(record(left_out=[("p", 4), ("q", ""), ("t", True)]), record(), "value", parts)
        self.one(record(left_out=[("t", True), ("p", 4)]), record(), "value", parts)

    def test_arms(self):
        for wide, other_wide in itertools.product([True, False], repeat=2):
            self.one(choice("t", wide=wide), choice("t", wide=other_wide), "paper")
            self.one(choice("t", wide=wide), choice("t", "r", wide=other_wide), "paper")
            self.one(choice("t", "r", wide=wide), choice("t", wide=other_wide), "value")
            self.one(choice("t", "e", wide=wide), choice("t", wide=other_wide), "paper")
            self.one(choice("t", "r", wide=wide), choice("t", "t", wide=other_wide), "value")
            self.one(choice("t", wide=wide), ("choice", (), (1,), other_wide), "value")

    def test_an_arm_that_is_read_as_other(self):
        """Kept, but not turned."""
        make = ("a", {"a": choice("t", "n"), "t": TRUTH, "n": NUMBER})
        other = ("a", {"a": choice("t", wide=True), "t": TRUTH})
        self.assertEqual(keeps(make, other)[0], "paper")
        self.told(make, other, "value")
        self.assertIs(lets_turn(make, other, keeps(make, other)), False)
        self.assertIs(lets_turn(make, other, ("value", ("arm", 1, True))), False)
        self.assertIs(lets_turn(make, other, ("value", ("arm", 2, 0))), True)

    def test_keeping(self):
        """Read to an own value that tells alike, but it doesn't come back."""
        make = ("a", {"a": record("t"), "t": TRUTH})
        other = ("a", {"a": record(left_out=[("t", True)]), "t": TRUTH})
        self.told(make, other, "value")
        self.assertIs(lets_turn(make, other, ("value", ((True,), ()))), True)
        self.assertIs(lets_turn(make, other, ("value", ((False,), ()))), False)


class Makes(Held):
    def test_alike(self):
        for make in small_makes(711, 200) + great_makes(712, 60):
            self.told(make, make, "paper")

    def test_empty_roots(self):
        for root in ["e", "f", "g"]:
            make = (root, {"e": choice(), "f": record("t", "e"), "g": choice("e", "f"), "t": TRUTH})
            for shape in [TRUTH, ("text", 3), ("row", "a", 3), record("a"), choice(), choice("a", wide=True)]:
                self.told(make, ("a", {"a": shape}), "paper")
        self.told(("a", {"a": ("row", "a", 3)}), ("e", {"e": choice()}), "value")

    def test_forms_that_go_round(self):
        tree = {"a": record("s", "b"), "b": ("row", "a", 5), "s": ("text", 5)}
        self.told(("a", tree), ("a", tree), "paper")
        self.told(("a", tree), ("x", {"x": record("y", "z"), "z": ("row", "x", 5), "y": ("text", 9)}), "paper")
        self.told(("a", tree), ("x", {"x": record("y", "z"), "z": ("row", "v", 5), "y": ("text", 5), "v": record("y", "u"), "u": ("row", "x", 5)}), "paper")
        self.told(("a", tree), ("x", {"x": record("y", "z"), "z": ("row", "v", 5), "y": ("text", 5), "v": record("y"), "u": ("row", "x", 5)}), "value")
        more = ("a", dict(tree, a=record("s", "b", left_out=[("n", 3)]), n=NUMBER))
        self.told(("a", tree), more, "paper")
        self.told(more, ("a", tree), "value")
        never = ("a", dict(tree, a=record("s", "b", left_out=[("n", 3)]), n=("whole", 3, 3)))
        self.told(never, ("a", tree), "paper")

    def test_values_that_lie_deep(self):
        """Eight forms in a ring against seven: just one of the 56 pairs is not known, and it comes last."""
        ring = {one: ("row", other, 1) for one, other in zip("abcdefgh", "bcdefgha")}
        make = ("a", dict(ring, h=choice("a", "g")))
        other = ("a", dict({one: ("row", two, 1) for one, two in zip("abcdefg", "bcdefga")}))
        self.told(make, other, "value")
        make = ("a", dict(ring, h=record(left_out=[("a", ())])))
        self.told(make, make, "paper")
        self.told(make, ("a", dict(ring, h=record())), "value")
        self.told(("a", dict(ring, h=record())), make, "paper")

    def test_the_other_way_need_not_be(self):
        make = ("a", {"a": record("t"), "t": TRUTH})
        other = ("a", {"a": record("t", left_out=[("t", True)]), "t": TRUTH})
        self.told(make, other, "paper")
        self.told(other, make, "value")
        self.assertEqual(keeps(other, make)[0], "paper")


class Drawn(Held):
    def test_any_two_makes(self):
        rng = random.Random(713)
        seen = []
        for make, other in make_pairs(714, 1200):
            word = self.held(make, other)
            seen.append((keeps(make, other)[0], word))
            paper = turn_paper_plainly(make, other)
            self.assertEqual(make[0] in paper[1] or (make[0], other[0]) in paper[0], word == "paper", (make, other))
            if word == "paper":
                for value in values_of(rng, make, make[0], 4):
                    self.assertTrue(is_turned(make, other, value), (make, other, value))
        self.assertEqual(seen.count(("value", "paper")), 0)
        self.assertGreater(seen.count(("paper", "value")), 30)
        self.assertGreater(seen.count(("value", "value")), 200)
        self.assertGreater(seen.count(("paper", "paper")), 400)

    def test_great_makes(self):
        makes = great_makes(715, 100)
        for make, other in zip(makes, makes[1:]):
            told = turns(make, other)
            self.assertIs(lets_turn(make, other, told), True)

    def test_the_order_of_names_is_no_matter(self):
        for make, other in make_pairs(716, 150):
            turned = [(some[0], {name: some[1][name] for name in sorted(some[1], reverse=True)}) for some in (make, other)]
            self.assertEqual(self.held(make, other), self.held(turned[0], turned[1]))


class Answers(unittest.TestCase):
    MAKE = ("a", {"a": record("n", left_out=[("t", True)]), "t": TRUTH, "n": NUMBER})
    PAPER = ((("a", "a"), ("n", "n"), ("t", "t")), ())

    def told(self, make, other, thing, turn, answer):
        with self.subTest(make=make, other=other, thing=thing):
            self.assertIs(lets_turn(make, other, thing), turn)
            self.assertIs(lets_answer(make, other, thing), answer)

    def test_any_plain_thing(self):
        for thing in WRONG_THINGS + DEEP_THINGS:
            for some in [thing, ("paper", thing), ("value", thing), ["paper", thing], (thing, self.PAPER), (thing, thing), ("paper",), ("value",),
                         ("paper", self.PAPER, thing), ("value", thing, thing), {"paper": thing}]:
                self.told(self.MAKE, self.MAKE, some, False, False)

    def test_papers(self):
        make = self.MAKE
        self.told(make, make, ("paper", self.PAPER), True, True)
        for wrong in [["paper", self.PAPER], ("Paper", self.PAPER), ("value", self.PAPER), ("papers", self.PAPER), ("paper", list(self.PAPER)),
                      ("paper", self.PAPER + ((),)), ("paper",), ("paper", self.PAPER, self.PAPER), (self.PAPER,), self.PAPER, (self.PAPER, "paper"),
                      ("paper", (self.PAPER[0][1:], ())), ("paper", (self.PAPER[0][:1], ())), ("paper", (self.PAPER[0], ("t",))),
                      ("paper", (self.PAPER[0] + (("z", "z"),), ())), ("paper", (self.PAPER[0] + (("n", "t"),), ())), (["paper"], self.PAPER),
                      ("paper", (self.PAPER[0] + (["t", "t"],), ()))]:
            self.told(make, make, wrong, False, False)
        self.told(make, make, ("paper", (self.PAPER[0][::-1] * 2, ())), True, True)

    def test_papers_that_are_let_by_for_one_of_both(self):
        make = self.MAKE
        less = ("a", {"a": record("n"), "t": TRUTH, "n": NUMBER})
        self.told(make, less, ("paper", ((("a", "a"), ("n", "n")), ())), False, True)
        self.told(less, make, ("paper", ((("a", "a"), ("n", "n")), ())), True, True)
        may = ("a", {"a": record(left_out=[("n", 3), ("t", True)]), "t": TRUTH, "n": NUMBER})
        self.told(make, may, ("paper", self.PAPER), False, True)
        self.told(may, make, ("paper", self.PAPER), False, False)

    def test_values(self):
        make = self.MAKE
        less = ("a", {"a": record("n"), "t": TRUTH, "n": ("whole", 0, 4)})
        for value, turn, answer in [(((5, True), ()), True, True), (((5, False), ()), True, True), (((4, True), ()), False, False),
                                    (((4, False), ()), True, False), (((0, False), ()), True, False)]:
            self.told(make, less, ("value", value), turn, answer)
            self.told(make, make, ("value", value), False, False)
            for wrong in [["value", value], ("value",), ("value", value, value), ("paper", value), ("Value", value), (value,), value, (value, "value"),
                          ("value", list(value)), ("value", value[0]), ("value", (value[0] + (True,), ()))]:
                self.told(make, less, wrong, False, False)

    def test_values_that_are_no_own_ones(self):
        make = self.MAKE
        less = ("a", {"a": record("n"), "t": TRUTH, "n": ("whole", 0, 4)})
        for value in [((5, True), ((7, ("whole", 1)),)), ((4, False), ((7, ("whole", 1)),))]:
            self.assertTrue(is_value(make, "a", value))
            self.told(make, less, ("value", value), False, False)
        for value in [((6, True), ()), ((-1, True), ()), ((True, True), ()), ((5, 1), ()), ((5,), ()), ((5, True), [])]:
            self.assertFalse(is_value(make, "a", value))
            self.told(make, less, ("value", value), False, False)
        make = ("a", {"a": choice("n", wide=True), "n": NUMBER})
        less = ("a", {"a": choice("n"), "n": NUMBER})
        self.told(make, less, ("value", ("other", 2, ("whole", 5))), False, False)
        self.told(make, less, ("value", ("arm", 1, 5)), False, False)

    def test_it_does_not_tell_alike(self):
        make = ("a", {"a": record(left_out=[("t", True)]), "t": TRUTH})
        other = ("a", {"a": record(left_out=[("t", False)]), "t": TRUTH})
        self.told(make, other, ("value", ((True,), ())), True, True)
        # This one is written as what the other leaves out: so it doesn't come back.
        self.told(make, other, ("value", ((False,), ())), True, False)

    def test_drawn_values(self):
        rng = random.Random(717)
        seen = []
        for make, other in make_pairs(718, 300):
            for value in values_of(rng, make, make[0], 4, own=rng.random() < 0.7):
                own = is_own(make, make[0], value)
                turn = own and not is_turned(make, other, value)
                answer = own and not is_read(make, other, value)
                self.told(make, other, ("value", value), turn, answer)
                seen.append((own, turn, answer))
                for some in rng.sample(variants(rng, ("value", value)), 4):
                    right = type(some) is tuple and len(some) == 2 and some[0] == "value" and is_own(make, make[0], some[1])
                    if not right:
                        self.told(make, other, some, False, False)
        for some in [(True, True, True), (True, True, False), (True, False, False), (False, False, False)]:
            self.assertGreater(seen.count(some), 20, some)

    def test_drawn_papers(self):
        rng = random.Random(719)
        seen = []
        for make, other in make_pairs(720, 400):
            pairs = all_pairs(make, other)
            papers = [struck(make, other, pairs, rng.sample(sorted(make[1]), rng.randint(0, len(make[1]))), rng.random() < 0.5)]
            papers.append((tuple(pair for pair in papers[0][0] if rng.random() < 0.9), papers[0][1]))
            papers.extend(told[1] for told in [reads(make, other), keeps(make, other), turns(make, other)] if told[0] == "paper")
            papers.extend([lessened_plainly(make, other, paper) for paper in papers if lets_read(make, other, paper)])
            for paper in papers:
                answer = lets_read(make, other, paper)
                turn = lets_keep(make, other, paper) and knows_plainly(make, other, paper)
                before = copy.deepcopy((make, other, paper))
                self.told(make, other, ("paper", paper), turn, answer)
                self.assertEqual((make, other, paper), before)
                seen.append((turn, answer))
        for some in [(True, True), (False, True), (False, False)]:
            self.assertGreater(seen.count(some), 50, some)

    def test_never_both(self):
        rng = random.Random(721)
        for make, other in make_pairs(722, 200):
            if turns(make, other)[0] == "paper":
                for value in values_of(rng, make, make[0], 3):
                    self.told(make, other, ("value", value), False, False)
            self.assertIs(lets_answer(make, other, reads(make, other)), True)

    def test_lessened_papers_turn(self):
        for make, other in make_pairs(723, 300):
            told = turns(make, other)
            if told[0] == "paper":
                self.assertIs(lets_turn(make, other, ("paper", lessened(make, other, told[1]))), True)

    def test_great_values(self):
        """As many items as may be handed in again."""
        forms = {"a": record(*["p"] * 7, left_out=[("r", ())]), "p": record(*["t"] * 8), "t": TRUTH, "r": ("row", "a", 20)}
        make = ("a", forms)
        other = ("a", dict(forms, r=("row", "b", 20), b=record(*["p"] * 7, left_out=[("s", ())]), s=("row", "c", 20),
                           c=record(*["p"] * 7, left_out=[("u", ())]), u=("row", "a", 19)))
        for told in [turns(make, other), reads(make, other)]:
            self.assertEqual(told[0], "value")
            self.told(make, other, told, True, True)
            self.assertTrue(same(told[1], turns(make, other)[1]) or not is_kept(make, other, told[1]))


if __name__ == "__main__":
    unittest.main()
