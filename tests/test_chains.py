"""Points 2, 5, 55 to 57 and 65: papers chained, and a row of makes turned to one paper."""

import copy
import itertools
import random
import unittest

from makes.chains import along, chained, knows_all
from makes.checker import lets_keep, lets_read
from makes.deciding import keeps, reads
from makes.deedpapers import deed_paper
from makes.deeds import all_done
from makes.errors import BadDeed
from makes.lessening import lessened
from tests.deeds_plainly import right_deeds
from tests.drawing import great_makes, grown_shape, linked_make, renamed, small_make, turned_make, turned_shape, values_of
from tests.papers_plainly import all_pairs, empties_plainly, is_kept, struck
from tests.samples import choice, record
from tests.values_plainly import same

TRUTH = ("truth",)
NUMBER = ("whole", 0, 5)


def chained_plainly(paper, other_paper):
    pairs = {(w, r) for w, m in paper[0] for n, r in other_paper[0] if m == n}
    empties = {w for w in paper[1]} | {w for w, m in paper[0] if m in other_paper[1]}
    return (tuple(sorted(pairs)), tuple(sorted(empties)))


class Chained(unittest.TestCase):
    def told(self, paper, other_paper, wanted):
        for one in [paper, (paper[0][::-1], paper[1][::-1]), (paper[0] * 2, paper[1] * 2)]:
            for other in [other_paper, (other_paper[0][::-1], other_paper[1][::-1]), (other_paper[0] * 2, other_paper[1] * 2)]:
                self.assertTrue(same(chained(one, other), wanted), (one, other, chained(one, other)))

    def test_of_nothing(self):
        self.told(((), ()), ((), ()), ((), ()))
        self.told(((), ()), ((("m", "r"),), ("m",)), ((), ()))
        self.told(((("w", "m"),), ("v",)), ((), ()), ((), ("v",)))

    def test_pairs(self):
        self.told(((("w", "m"),), ()), ((("m", "r"),), ()), ((("w", "r"),), ()))
        self.told(((("w", "m"), ("v", "m")), ()), ((("m", "r"), ("m", "s")), ()),
                  ((("v", "r"), ("v", "s"), ("w", "r"), ("w", "s")), ()))
        self.told(((("w", "m"), ("w", "n")), ()), ((("m", "r"), ("n", "r")), ()), ((("w", "r"),), ()))
        self.told(((("z", "a"), ("a", "z")), ()), ((("z", "z"), ("a", "a")), ()), ((("a", "z"), ("z", "a")), ()))

    def test_pairs_that_lead_nowhere(self):
        self.told(((("w", "m"), ("v", "n")), ()), ((("m", "r"), ("o", "s")), ()), ((("w", "r"),), ()))
        self.told(((("w", "m"),), ()), ((("r", "m"), ("w", "r")), ()), ((), ()))

    def test_empties(self):
        self.told(((("w", "m"),), ("v",)), ((("m", "r"),), ()), ((("w", "r"),), ("v",)))
        self.told(((("w", "m"),), ("v",)), ((), ("m",)), ((), ("v", "w")))
        self.told(((("w", "m"),), ()), ((("m", "r"),), ("m",)), ((("w", "r"),), ("w",)))
        self.told(((("w", "m"), ("w", "n"), ("u", "m")), ("w",)), ((("n", "r"),), ("m", "k")), ((("w", "r"),), ("u", "w")))
        self.told(((("w", "m"),), ("z", "a")), ((), ("w", "v", "z")), ((), ("a", "z")))

    def test_drawn(self):
        rng = random.Random(551)
        for turn in range(400):
            papers = [some_paper(rng) for place in range(3)]
            before = copy.deepcopy(papers)
            told = chained(papers[0], papers[1])
            self.assertTrue(same(told, chained_plainly(papers[0], papers[1])))
            either = chained(told, papers[2])
            self.assertTrue(same(either, chained(papers[0], chained(papers[1], papers[2]))))
            self.assertTrue(same(papers, before))


def some_paper(rng):
    names = list("abcd")
    return (tuple((rng.choice(names), rng.choice(names)) for place in range(rng.randint(0, 7))),
            tuple(rng.choice(names) for place in range(rng.choice([0, 0, 1, 3]))))


class KnowsAll(unittest.TestCase):
    PARTS = {"t": TRUTH, "s": ("text", 3), "n": NUMBER, "r": ("row", "t", 2), "m": ("map", "t", 2)}

    def knows(self, shape, other_shape, wanted, pairs=(("a", "a"),)):
        told = knows_all(("a", dict(self.PARTS, a=shape)), ("a", dict(self.PARTS, a=other_shape)), (pairs, ()))
        self.assertIs(told, wanted, (shape, other_shape, pairs))

    def test_records(self):
        self.knows(record(), record(), True)
        self.knows(record("t"), record("t"), True)
        self.knows(record("t"), record("s", "s"), True)
        self.knows(record("t", "t"), record("t"), False)
        self.knows(record("t"), record(), False)
        self.knows(record(left_out=[("t", True)]), record(), False)
        self.knows(record(), record("t", "t"), True)
        self.knows(("record", ((1, "x", "t", ()), (3, "y", "t", ())), ()), ("record", ((1, "y", "t", ()), (2, "x", "t", ())), (3,)), False)
        self.knows(("record", ((1, "x", "t", ()),), (3,)), ("record", ((1, "y", "t", ()),), ()), True)

    def test_struck_ones_do_not_count(self):
        self.knows(record("t"), ("record", (), (1,)), False)
        self.knows(choice("t"), ("choice", (), (1,), True), False)

    def test_choices(self):
        for wide, other_wide in itertools.product([True, False], repeat=2):
            self.knows(choice(wide=wide), choice(wide=other_wide), True)
            self.knows(choice("t", "s", wide=wide), choice("t", "t", "t", wide=other_wide), True)
            self.knows(choice("t", "s", wide=wide), choice("t", wide=other_wide), False)
            self.knows(choice("t", wide=wide), choice(wide=other_wide), False)

    def test_an_arm_of_an_empty_form_counts(self):
        make = ("a", {"a": choice("a", "t"), "t": TRUTH, "e": choice()})
        other = ("a", {"a": choice(wide=True)})
        self.assertIs(knows_all(make, other, ((("a", "a"),), ("t", "a", "e"))), False)
        self.assertIs(knows_all(make, other, ((("e", "a"),), ("a",))), True)

    def test_other_sorts_and_unlike_sorts(self):
        for sort in ["t", "s", "n", "r", "m"]:
            self.knows(self.PARTS[sort], self.PARTS[sort], True)
            for shape in [record("t"), choice("t")]:
                self.knows(shape, self.PARTS[sort], True)
                self.knows(self.PARTS[sort], shape, True)
        self.knows(record("t"), choice(), True)
        self.knows(choice("t"), record(), True)
        self.knows(("row", "t", 3), ("map", "s", 1), True)

    def test_each_pair_is_asked(self):
        make = ("a", {"a": record("t"), "b": choice("t"), "t": TRUTH})
        other = ("a", {"a": record("t"), "b": choice(), "c": record(), "t": TRUTH})
        for pairs, wanted in [((), True), ((("a", "a"),), True), ((("a", "a"),) * 2, True), ((("a", "c"),) * 2, False),
                              ((("a", "a"), ("a", "c")), False), ((("a", "c"), ("a", "a")), False), ((("b", "b"),), False),
                              ((("t", "t"), ("b", "a"), ("a", "b")), True)]:
            self.assertIs(knows_all(make, other, (pairs, ())), wanted)


def rows_of_makes(seed, many, long):
    """Rows of makes, each turned in some things from the one ahead."""
    rng = random.Random(seed)
    for turn in range(many):
        makes = [small_make(rng) if turn % 3 == 0 else linked_make(rng)]
        for place in range(long - 1):
            make = makes[-1]
            for edit in range(rng.choice([0, 1, 1, 2])):
                make = turned_make(rng, make, turned_shape if rng.random() < 0.1 else grown_shape)
            makes.append(renamed(rng, make))
        yield makes


def some_papers(rng, make, other, keeping):
    """Papers that are let by: all that is right, the lessened one, and what is left of some."""
    told = (keeps if keeping else reads)(make, other)
    if told[0] == "value":
        return []
    some = struck(make, other, [pair for pair in all_pairs(make, other) if rng.random() < 0.9],
                  [name for name in empties_plainly(make) if rng.random() < 0.5], keeping)
    every = struck(make, other, all_pairs(make, other), sorted(make[1]), keeping)
    lets = lets_keep if keeping else lets_read
    return [told[1], lessened(make, other, told[1]), every] + [some] * lets(make, other, some)


class LetBy(unittest.TestCase):
    def chains(self, seed, many, keeping):
        rng = random.Random(seed)
        for one, middle, last in rows_of_makes(seed + 1, many, 3):
            for paper in some_papers(rng, one, middle, keeping):
                for other_paper in some_papers(rng, middle, last, keeping):
                    yield one, middle, last, paper, other_paper

    def test_for_reading_and_for_keeping(self):
        for keeping, lets in [(False, lets_read), (True, lets_keep)]:
            seen = [0, 0, 0]
            for one, middle, last, paper, other_paper in self.chains(571, 400, keeping):
                told = chained(paper, other_paper)
                if knows_all(one, middle, paper):
                    self.assertTrue(lets(one, last, told), (one, middle, last, paper, other_paper))
                    seen[0] += 1
                    seen[1] += paper != told
                elif not lets(one, last, told):
                    seen[2] += 1
            self.assertGreater(seen[0], 500)
            self.assertGreater(seen[1], 100)
            self.assertGreater(seen[2], 0)

    def test_what_the_middle_one_does_not_know(self):
        """The last make knows the number as another thing."""
        one = ("a", {"a": record("t", "t"), "t": TRUTH})
        middle = ("a", {"a": record("t"), "t": TRUTH})
        last = ("a", {"a": record("t", left_out=[("s", "")]), "t": TRUTH, "s": ("text", 3)})
        paper = ((("a", "a"), ("t", "t")), ())
        self.assertTrue(lets_keep(one, middle, paper) and lets_keep(middle, last, paper))
        self.assertIs(knows_all(one, middle, paper), False)
        self.assertIs(lets_read(one, last, chained(paper, paper)), False)

    def test_an_empty_form_that_the_middle_one_does_not_know(self):
        """An open choice that has no own value has others: so not what the other paper tells of it."""
        one = ("a", {"a": choice("t"), "t": TRUTH})
        middle = ("a", {"a": choice(wide=True)})
        last = ("s", {"s": ("text", 3)})
        self.assertTrue(lets_keep(one, middle, ((("a", "a"),), ())) and lets_keep(middle, last, ((), ("a",))))
        told = chained(((("a", "a"),), ()), ((), ("a",)))
        self.assertEqual(told, ((), ("a",)))
        self.assertIs(lets_read(one, last, told), False)

    def test_values_go_all_the_way(self):
        rng = random.Random(573)
        for one, middle, last, paper, other_paper in self.chains(574, 60, True):
            if knows_all(one, middle, paper):
                for value in values_of(rng, one, one[0], 2):
                    self.assertTrue(is_kept(one, last, value))


class Along(unittest.TestCase):
    NAMES = [((("a", "a"), ("t", "t")), ()), ((("t", "t"), ("a", "a")), ()), ((("a", "a"), ("t", "t"), ("a", "a")), ())]

    def makes(self, *shapes):
        return [("a", {"a": shape, "t": TRUTH}) for shape in shapes]

    def test_one_make(self):
        self.assertTrue(same(along(self.makes(record("t")), []), ("paper", ((("a", "a"), ("t", "t")), ()))))
        make = ("a", {"a": choice("e", "t"), "t": TRUTH, "e": choice(), "b": record("b")})
        self.assertTrue(same(along([make], []), ("paper", ((("a", "a"), ("t", "t")), ("b", "e")))))
        self.assertTrue(same(along([("e", {"e": choice(wide=True)})], []), ("paper", ((), ("e",)))))
        for make in great_makes(651, 40):
            told = along([make], [])
            self.assertEqual(told[0], "paper")
            self.assertTrue(lets_keep(make, make, told[1]))
            self.assertEqual(told[1][1], empties_plainly(make))
            self.assertEqual(told[1][0], tuple((name, name) for name in sorted(make[1]) if name not in told[1][1]))

    def test_one_paper_is_told_as_it_is(self):
        makes = self.makes(record("t"), record("t", left_out=[("t", True)]))
        for paper in self.NAMES:
            self.assertTrue(same(along(makes, [paper]), ("paper", paper)))

    def test_the_last_one_need_not_know_all(self):
        makes = self.makes(record("t", "t"), record("t"))
        self.assertTrue(same(along(makes, self.NAMES[:1]), ("paper", self.NAMES[0])))
        makes = self.makes(record("t", "t"), record("t", "t"), record("t"))
        self.assertTrue(same(along(makes, self.NAMES[1:]), ("paper", self.NAMES[0])))

    def test_places(self):
        paper = self.NAMES[0]
        full = record("t", "t")
        less = record("t")
        for shapes, place in [([full, less, less], 0), ([full, full, less, less], 1), ([full, less, less, record()], 0),
                              ([full, full, less, record(), record()], 1), ([less, full], 0), ([less, less, full], 1),
                              ([full, full, full, less, less, less, full], 2)]:
            told = along(self.makes(*shapes), [paper] * (len(shapes) - 1))
            self.assertTrue(same(told, ("place", place)), (shapes, told))

    def test_not_let_by(self):
        makes = self.makes(*[record("t")] * 4)
        for wrong in [((), ()), ((("a", "a"),), ()), ((("t", "t"),), ()), ((("a", "a"), ("t", "t")), ("t",)), ((("a", "a"), ("t", "a")), ())]:
            for place in range(3):
                papers = [self.NAMES[0]] * 3
                papers[place] = wrong
                self.assertTrue(same(along(makes, papers), ("place", place)))
                self.assertTrue(same(along(makes, papers[:place] + [wrong] * (3 - place)), ("place", place)))

    def test_let_by_for_reading_alone(self):
        makes = self.makes(record("t"), record("t"), record(left_out=[("t", True)]), record(left_out=[("t", True)]))
        self.assertTrue(lets_read(makes[1], makes[2], self.NAMES[0]))
        self.assertTrue(same(along(makes, [self.NAMES[0]] * 3), ("place", 1)))
        self.assertTrue(same(along(makes[1:3], [self.NAMES[0]]), ("place", 0)))
        self.assertTrue(same(along(makes[2:], [self.NAMES[0]]), ("paper", self.NAMES[0])))

    def test_many(self):
        makes = self.makes(*[record("t")] * 40)
        self.assertTrue(same(along(makes, [self.NAMES[1]] * 39), ("paper", self.NAMES[0])))

    def test_drawn(self):
        rng = random.Random(652)
        seen = {"paper": 0, "place": 0}
        for makes in rows_of_makes(653, 400, 4):
            papers = []
            for one, other in zip(makes, makes[1:]):
                papers.append(rng.choice((some_papers(rng, one, other, rng.random() < 0.9) or [((), ())])))
            before = copy.deepcopy((makes, papers))
            told = along(makes, papers)
            self.assertEqual((makes, papers), before)
            seen[told[0]] += 1
            wrong = [k for k in range(3) if not lets_keep(makes[k], makes[k + 1], papers[k])
                     or (k < 2 and not knows_all(makes[k], makes[k + 1], papers[k]))]
            if wrong:
                self.assertTrue(same(told, ("place", wrong[0])))
            else:
                chain = chained(chained(papers[0], papers[1]), papers[2])
                self.assertTrue(same(told, ("paper", chain)))
                self.assertTrue(lets_keep(makes[0], makes[3], chain))
        self.assertGreater(min(seen.values()), 60)

    def test_of_deeds(self):
        rng = random.Random(654)
        for turn in range(60):
            make = linked_make(rng)
            deeds = right_deeds(rng, make, 4)[0]
            makes = all_done(make, deeds)
            try:
                papers = [deed_paper(one, deed) for one, deed in zip(makes, deeds)]
            except BadDeed:
                continue
            told = along(makes, papers)
            strikes = [k for k in range(3) if deeds[k][0] == "strike"]
            if not strikes:
                self.assertEqual(told[0], "paper")
                self.assertTrue(lets_keep(makes[0], makes[-1], told[1]))


class Asked(unittest.TestCase):
    def test_the_same_is_told_again(self):
        paper = ((("b", "m"), ("a", "m")), ("z", "z"))
        other = ((("m", "r"),), ())
        told = chained(paper, other)
        self.assertEqual(paper, ((("b", "m"), ("a", "m")), ("z", "z")))
        self.assertTrue(same(chained(paper, other), told))

    def test_the_order_of_names_is_no_matter(self):
        forms = {"a": record("b", "t"), "b": choice("a", "e", "t"), "e": choice(), "t": TRUTH}
        for names in itertools.permutations(forms):
            make = ("a", {name: forms[name] for name in names})
            self.assertEqual(along([make], []), ("paper", ((("a", "a"), ("b", "b"), ("t", "t")), ("e",))))


if __name__ == "__main__":
    unittest.main()
