"""Points 2 and 51: papers lessened to what the roots lead to."""

import copy
import itertools
import random
import unittest

from makes.checker import lets_keep, lets_read
from makes.deciding import keeps, reads
from makes.lessening import lessened
from tests.drawing import make_pairs
from tests.papers_plainly import all_pairs, lessened_plainly, struck
from tests.samples import choice, record
from tests.values_plainly import same

TRUTH = ("truth",)
# "e" is empty, and so are "f" and "g", which need it.
EMPTIES = {"e": choice(), "f": record("t", "e"), "g": choice("e", "f"), "t": TRUTH}


class Held(unittest.TestCase):
    def told(self, make, other, paper, less):
        with self.subTest(make=make, other=other, paper=paper):
            self.assertTrue(lets_read(make, other, paper))
            keeping = lets_keep(make, other, paper)
            for some in [paper, (paper[0][::-1], paper[1][::-1]), (paper[0] * 2, paper[1] * 3)]:
                told = lessened(make, other, some)
                self.assertTrue(same(told, less), told)
            self.assertTrue(lets_read(make, other, less))
            self.assertTrue(lets_keep(make, other, less) or not keeping)
            self.assertTrue(same(lessened(make, other, less), less))


class Pairs(Held):
    def full(self, shape, other_shape, pairs, empties=()):
        """The paper with all that is right, lessened from the root "a" to these pairs (beside the roots') and empties."""
        make = ("a", dict(EMPTIES, a=shape, n=("whole", 0, 5)))
        other = ("a", dict(EMPTIES, a=other_shape, n=("whole", 0, 5)))
        paper = struck(make, other, all_pairs(make, other), sorted(make[1]))
        self.told(make, other, paper, (tuple(sorted(pairs + (("a", "a"),))), empties))

    def test_single_ones(self):
        for shape in [TRUTH, ("whole", 0, 5), ("text", 3)]:
            self.full(shape, shape, ())
        self.full(TRUTH, ("whole", 0, 5), ())

    def test_rows_and_maps(self):
        for sort in ["row", "map"]:
            self.full((sort, "t", 3), (sort, "t", 3), (("t", "t"),))
            self.full((sort, "t", 1), (sort, "n", 3), (("t", "n"),))
            self.full((sort, "a", 3), (sort, "a", 3), ())
            self.full((sort, "e", 3), (sort, "t", 1), (), ("e",))
            self.full((sort, "g", 3), (sort, "t", 1), (), ("e", "f", "g"))

    def test_most_0(self):
        for sort in ["row", "map"]:
            for most in [0, 3]:
                self.full((sort, "t", 0), (sort, "t", most), ())
                self.full((sort, "e", 0), (sort, "t", most), ())
            self.full((sort, "e", 3), (sort, "t", 0), (), ("e",))

    def test_fields(self):
        self.full(record(), record(), ())
        self.full(record("t", "n"), record("t", "n"), (("t", "t"), ("n", "n")))
        self.full(record("t", "n"), record("n"), (("t", "n"),))
        self.full(record("t"), record("t", left_out=[("n", 3)]), (("t", "t"),))
        self.full(record("t", left_out=[("n", 3)]), record("t", left_out=[("n", 3)]), (("t", "t"), ("n", "n")))
        self.full(record("t", left_out=[("n", 3)]), record("t"), (("t", "t"),))

    def test_arms(self):
        for wide in [True, False]:
            self.full(choice("t", "n", wide=wide), choice("t", "n"), (("t", "t"), ("n", "n")))
            self.full(choice("t", "n", wide=wide), choice("n", wide=True), (("t", "n"),))
            self.full(choice("t", wide=wide), choice("t", "n", wide=wide), (("t", "t"),))
            self.full(choice("t", "e", wide=wide), choice("t", "n"), (("t", "t"),), ("e",))
            self.full(choice("t", "e", wide=wide), choice("t"), (("t", "t"),), ("e",))
            self.full(choice("t", "f", wide=wide), choice("t", wide=True), (("t", "t"),), ("e", "f"))

    def test_further_on(self):
        forms = {"a": record("b", "t"), "b": ("row", "c", 3), "c": choice("a", "d"), "d": ("map", "t", 2), "t": TRUTH, "z": record("t")}
        paper = struck(("a", forms), ("a", forms), all_pairs(("a", forms), ("a", forms)), ())
        self.assertEqual(len(paper[0]), 6)
        self.told(("a", forms), ("a", forms), paper, (tuple((name, name) for name in "abcdt"), ()))
        self.told(("d", forms), ("d", forms), paper, ((("d", "d"), ("t", "t")), ()))

    def test_one_form_with_several(self):
        make = ("a", {"a": record("t", "t"), "t": TRUTH})
        other = ("x", {"x": record("y", "z"), "y": TRUTH, "z": ("whole", 0, 9)})
        paper = ((("a", "x"), ("t", "y"), ("t", "z")), ())
        self.told(make, other, paper, paper)


class Empties(Held):
    def test_an_empty_root(self):
        other = ("x", {"x": choice("y", wide=True), "y": TRUTH})
        for root, empties, less in [("e", ("e",), ("e",)), ("e", ("e", "f", "g"), ("e",)), ("f", ("e", "f", "g"), ("e", "f")),
                                    ("g", ("e", "f", "g"), ("e", "f", "g"))]:
            self.told((root, EMPTIES), other, ((), empties), ((), less))
            self.told((root, EMPTIES), other, ((("t", "y"),), empties), ((), less))

    def test_an_empty_root_that_is_in_a_pair_too(self):
        other = ("x", {"x": choice(), "y": TRUTH})
        self.told(("e", EMPTIES), other, ((("e", "x"),), ("e",)), ((), ("e",)))
        self.told(("e", EMPTIES), other, ((("e", "x"),), ()), ((("e", "x"),), ()))
        self.told(("e", EMPTIES), other, ((("e", "x"), ("t", "y")), ()), ((("e", "x"),), ()))

    def test_fields_that_may_be_left_out_lead_nowhere(self):
        forms = {"a": record("e", left_out=[("r", ())]), "e": choice(), "r": ("row", "h", 3), "h": record("h")}
        self.told(("a", forms), ("a", forms), ((), ("a", "e", "h")), ((), ("a", "e")))

    def test_forms_that_are_empty_and_not_among_the_empties(self):
        forms = {"a": choice("e", "t"), "e": record("e", "t"), "t": TRUTH}
        make = ("a", forms)
        pairs = (("a", "a"), ("e", "e"), ("t", "t"))
        self.told(make, make, (pairs, ()), (pairs, ()))
        self.told(make, make, (pairs, ("e",)), ((("a", "a"), ("t", "t")), ("e",)))
        forms = {"a": record("e", "f"), "e": choice(), "f": choice()}
        make = ("a", forms)
        self.told(make, make, ((("a", "a"), ("f", "f")), ("e",)), ((("a", "a"), ("f", "f")), ("e",)))
        self.told(make, make, ((("f", "f"),), ("a", "e")), ((), ("a", "e")))
        self.told(make, make, ((), ("a", "e", "f")), ((), ("a", "e", "f")))

    def test_empties_that_need_one_another(self):
        forms = {"a": choice("b", "t"), "b": record("c", "t"), "c": choice("b", "d"), "d": record("c"), "t": TRUTH, "z": choice()}
        make = ("a", forms)
        self.told(make, make, ((("a", "a"), ("t", "t")), ("b", "c", "d", "z")), ((("a", "a"), ("t", "t")), ("b", "c", "d")))


class Drawn(unittest.TestCase):
    def papers(self, rng, make, other):
        for told in [reads(make, other), keeps(make, other)]:
            if told[0] == "paper":
                yield told[1]
        pairs = all_pairs(make, other)
        for turn in range(3):
            some = rng.sample(pairs, rng.randint(0, len(pairs))) + [(make[0], other[0])]
            yield struck(make, other, some, rng.sample(sorted(make[1]), rng.randint(0, len(make[1]))))
            yield struck(make, other, pairs, rng.sample(sorted(make[1]), rng.randint(0, len(make[1]))))

    def test_as_the_document_tells(self):
        rng = random.Random(511)
        seen = [0, 0]
        for make, other in make_pairs(512, 600):
            for paper in self.papers(rng, make, other):
                if not lets_read(make, other, paper):
                    continue
                pairs = list(paper[0]) * 2
                rng.shuffle(pairs)
                before = copy.deepcopy((make, other, paper))
                told = lessened(make, other, (tuple(pairs), paper[1][::-1]))
                self.assertTrue(same(told, lessened_plainly(make, other, paper)), (make, other, paper, told))
                self.assertTrue(same(told, lessened(make, other, paper)))
                self.assertEqual((make, other, paper), before)
                self.assertTrue(set(told[0]) <= set(paper[0]) and set(told[1]) <= set(paper[1]))
                self.assertTrue(lets_read(make, other, told))
                self.assertTrue(lets_keep(make, other, told) or not lets_keep(make, other, paper))
                seen[0] += len(told[0]) < len(paper[0])
                seen[1] += len(told[1]) > 0
        self.assertGreater(min(seen), 100)

    def test_lessened_it_may_keep_where_the_whole_did_not(self):
        make = ("t", {"t": TRUTH, "a": record("t")})
        other = ("t", {"t": TRUTH, "a": record(left_out=[("t", True)])})
        paper = ((("a", "a"), ("t", "t")), ())
        self.assertIs(lets_keep(make, other, paper), False)
        self.assertEqual(lessened(make, other, paper), ((("t", "t"),), ()))

    def test_the_order_of_names_is_no_matter(self):
        forms = {"a": record("b", "t"), "b": choice("a", "e", "t"), "e": choice(), "t": TRUTH}
        paper = ((("a", "a"), ("b", "b"), ("t", "t")), ("e",))
        for names in itertools.permutations(forms):
            make = ("a", {name: forms[name] for name in names})
            self.assertEqual(lessened(make, make, paper), paper)


if __name__ == "__main__":
    unittest.main()
