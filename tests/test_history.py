"""Points 2, 5 and 62 to 64: makes that follow one another, and the lives of their numbers."""

import copy
import itertools
import random
import unittest

from makes.deeds import all_done
from makes.history import cannot_follow, first_wrong, number_lives
from tests.deeds_plainly import breaks_plainly, right_deeds
from tests.drawing import great_makes, linked_make, renamed, small_make, small_shape, turned_make, turned_shape
from tests.samples import choice, record
from tests.values_plainly import same

TRUTH = ("truth",)
PARTS = {"t": TRUTH, "n": ("whole", 0, 5)}


def rec(struck, *members):
    return ("record", tuple((number, "x" + of, of, ()) for number, of in members), struck)


def cho(struck, *members, wide=False):
    return ("choice", tuple((number, "x" + of, of) for number, of in members), struck, wide)


class Follow(unittest.TestCase):
    def told(self, make, other, word):
        with self.subTest(make=make, other=other):
            before = copy.deepcopy((make, other))
            told = cannot_follow(make, other)
            self.assertTrue(same(told, word), told)
            self.assertEqual((make, other), before)
            self.assertTrue(same(first_wrong([make, other]), None if word is None else (1, word)))
            turned = [(some[0], {name: some[1][name] for name in sorted(some[1], reverse=True)}) for some in (make, other)]
            self.assertEqual(cannot_follow(turned[0], turned[1]), word)

    def one(self, shape, other_shape, word):
        self.told(("a", dict(PARTS, a=shape)), ("a", dict(PARTS, a=other_shape)), word)

    def test_root(self):
        forms = {"a": TRUTH, "b": TRUTH}
        self.told(("a", forms), ("a", forms), None)
        self.told(("a", forms), ("b", forms), "root")
        self.told(("a", forms), ("b", {"b": ("text", 3)}), "root")

    def test_form(self):
        self.told(("a", {"a": TRUTH, "b": TRUTH}), ("a", {"a": TRUTH}), "form")
        self.told(("a", {"a": TRUTH}), ("a", {"a": TRUTH, "b": TRUTH}), None)
        shapes = [("whole", 0, 1), TRUTH, ("text", 3), ("row", "t", 3), ("map", "t", 3), record(), choice()]
        for one, other in itertools.product(shapes, repeat=2):
            self.one(one, other, None if one == other else "form")
        self.one(record("t"), choice("t"), "form")

    def test_what_is_no_matter(self):
        self.one(("whole", 0, 5), ("whole", 7, 9), None)
        self.one(("text", 9), ("text", 0), None)
        self.one(("row", "t", 9), ("row", "n", 0), None)
        self.one(("map", "t", 9), ("map", "a", 1), None)
        self.one(record(left_out=[("t", True)]), record("t"), None)
        self.one(("record", ((1, "x", "t", ()),), ()), ("record", ((1, "y", "t", (True,)),), ()), None)
        self.one(choice("t"), choice("t", "n"), None)
        self.one(record(), record("t"), None)
        self.one(choice("t"), choice("t", wide=True), None)
        self.one(choice("t", wide=True), choice("t", wide=True), None)
        self.one(choice("t"), choice("t"), None)

    def test_lost(self):
        for made in [rec, cho]:
            self.one(made((), (1, "t")), made(()), "lost")
            self.one(made((), (1, "t"), (3, "n")), made((), (1, "t")), "lost")
            self.one(made((), (1, "t"), (3, "n")), made((1,), (4, "n")), "lost")
            self.one(made((), (1, "t"), (3, "n")), made((1,), (3, "n")), None)
            self.one(made((), (1, "t"), (3, "n")), made((1, 3)), None)

    def test_back(self):
        for made in [rec, cho]:
            self.one(made((1,)), made(()), "back")
            self.one(made((1,)), made((), (1, "t")), "back")
            self.one(made((1, 999)), made((1,), (999, "t")), "back")
            self.one(made((1, 3)), made((1, 2, 3)), None)
            self.one(made((1, 3)), made((1, 3), (2, "t")), None)

    def test_turned(self):
        for made in [rec, cho]:
            self.one(made((), (1, "t")), made((), (1, "n")), "turned")
            self.one(made((), (1, "t"), (9, "n")), made((1,), (9, "a")), "turned")
            self.one(made((), (1, "t"), (9, "n")), made((), (1, "t"), (9, "n"), (10, "a")), None)

    def test_shut(self):
        self.one(choice(wide=True), choice(), "shut")
        self.one(choice("t", wide=True), choice("t"), "shut")
        self.one(choice("t", wide=True), choice("t", "n"), "shut")

    def test_the_first_word_of_several(self):
        one = cho((1, 9), (2, "t"), (3, "n"), wide=True)
        self.one(one, cho((1,), (3, "t")), "lost")
        self.one(one, cho((1, 2), (3, "t")), "back")
        self.one(one, cho((1, 2, 9), (3, "t")), "turned")
        self.one(one, cho((1, 2, 9), (3, "n")), "shut")
        self.one(one, cho((1, 2, 9), (3, "n"), wide=True), None)
        self.one(rec((1, 9), (2, "t"), (3, "n")), rec((1,), (3, "t")), "lost")
        self.one(rec((1, 9), (2, "t"), (3, "n")), rec((1, 2), (3, "t")), "back")
        self.one(rec((1, 9), (2, "t"), (3, "n")), rec((1, 2, 9), (3, "t")), "turned")

    def test_all_of_one_form_ahead_of_the_next(self):
        shapes = {"form": (TRUTH, ("text", 3)), "lost": (rec((), (1, "t")), rec(())), "back": (rec((1,)), rec(())),
                  "turned": (cho((), (1, "t")), cho((), (1, "a"))), "shut": (choice(wide=True), choice())}
        for one, other in itertools.permutations(shapes, 2):
            make = ("t", dict(PARTS, a=shapes[one][0], b=shapes[other][0]))
            later = ("t", dict(PARTS, a=shapes[one][1], b=shapes[other][1]))
            self.told(make, later, one)
            self.told((make[0], dict(make[1], z=TRUTH)), later, one)
            self.told(make, ("n", later[1]), "root")

    def test_drawn(self):
        rng = random.Random(621)
        seen = {}
        for turn in range(2500):
            make = rng.choice([small_make, linked_make])(rng)
            other = make
            for edit in range(turn % 4):
                other = rng.choice([turned_make(rng, other, turned_shape), turned_make(rng, other, with_other_struck),
                                    right_deeds(rng, other, 1)[1]])
            if turn % 9 == 0:
                other = renamed(rng, other)
            words = breaks_plainly(make, other)
            word = words[0] if words else None
            seen[word] = seen.get(word, 0) + 1
            self.told(make, other, word)
        for word in [None, "root", "form", "lost", "back", "turned", "shut"]:
            self.assertGreater(seen.get(word, 0), 10, (word, seen))

    def test_great_makes(self):
        makes = great_makes(622, 100)
        for make, other in zip(makes, makes[1:]):
            self.told(make, make, None)
            words = breaks_plainly(make, other)
            self.told(make, other, words[0])


def with_other_struck(rng, shape, names):
    if shape[0] not in ("record", "choice"):
        return small_shape(rng, names, shape[0])
    there = [member[0] for member in shape[1]]
    struck = tuple(sorted(rng.sample([number for number in range(1, 10) if number not in there], rng.randint(0, 3))))
    return shape[:2] + (struck,) + shape[3:]


class FirstWrong(unittest.TestCase):
    ONE = ("a", dict(PARTS, a=rec((1,), (2, "t"))))
    TWO = ("a", dict(PARTS, a=rec((1, 2))))

    def test_of_none_and_of_one(self):
        self.assertIsNone(first_wrong([]))
        self.assertIsNone(first_wrong([self.ONE]))

    def test_at_each_place(self):
        for many in range(2, 7):
            self.assertIsNone(first_wrong([self.ONE] * many))
            for place in range(1, many):
                self.assertIsNone(first_wrong([self.ONE] * place + [self.TWO] * (many - place)))
                makes = [self.TWO] * place + [self.ONE] * (many - place)
                before = copy.deepcopy(makes)
                self.assertTrue(same(first_wrong(makes), (place, "back")))
                self.assertEqual(makes, before)
                makes[place:] = [("t", PARTS)] * (many - place)
                self.assertTrue(same(first_wrong(makes), (place, "root")))

    def test_the_first_of_several(self):
        makes = [self.TWO, self.ONE, self.TWO, self.ONE, ("t", PARTS)]
        self.assertTrue(same(first_wrong(makes), (1, "back")))
        self.assertTrue(same(first_wrong(makes[1:]), (2, "back")))

    def test_only_neighbours_are_asked(self):
        gone = ("a", {"a": rec((1, 2))})
        self.assertIsNone(first_wrong([gone, self.TWO]))
        self.assertTrue(same(first_wrong([self.TWO, gone]), (1, "form")))

    def test_makes_of_deeds(self):
        rng = random.Random(631)
        for turn in range(150):
            make = rng.choice([small_make, linked_make])(rng)
            makes = all_done(make, right_deeds(rng, make, rng.randint(0, 10))[0])
            self.assertIsNone(first_wrong(makes))
            for some in itertools.combinations(makes, 2):
                self.assertIsNone(cannot_follow(some[0], some[1]))


class Lives(unittest.TestCase):
    def lives(self, makes, form, number):
        before = copy.deepcopy(makes)
        told = number_lives(makes, form, number)
        self.assertIs(type(told), list)
        self.assertEqual(makes, before)
        told.append("none")
        again = number_lives(makes, form, number)
        self.assertEqual(again + ["none"], told)
        return again

    def test_of_none(self):
        self.assertEqual(self.lives([], "a", 1), [])

    def test_each_word(self):
        makes = []
        for shape in [rec((2,), (1, "t")), cho((1,), (2, "t")), rec(()), cho((1, 2), wide=True), TRUTH, ("whole", 1, 1), ("text", 1),
                      ("row", "t", 1), ("map", "t", 1), rec((1,), (2, "t"))]:
            makes.append(("t", dict(PARTS, a=shape)))
        makes.append(("t", PARTS))
        self.assertEqual(self.lives(makes, "a", 1), ["there", "struck", "none", "struck"] + ["none"] * 5 + ["struck", "none"])
        self.assertEqual(self.lives(makes, "a", 2), ["struck", "there", "none", "struck"] + ["none"] * 5 + ["there", "none"])
        self.assertEqual(self.lives(makes, "a", 999), ["none"] * 11)
        self.assertEqual(self.lives(makes, "zz", 1), ["none"] * 11)
        self.assertEqual(self.lives(makes, "t", 1), ["none"] * 11)

    def test_in_their_order_where_makes_follow(self):
        rng = random.Random(641)
        seen = set()
        for turn in range(60):
            make = rng.choice([small_make, linked_make])(rng)
            makes = all_done(make, right_deeds(rng, make, 10)[0])
            self.in_order(makes, seen)
        self.assertIn(("none", "there", "struck"), seen)

    def test_in_their_order_in_other_rows(self):
        """Makes that follow one another, whether they come of deeds or not."""
        rng = random.Random(642)
        seen = set()
        for turn in range(60):
            makes = [linked_make(rng)]
            for edit in range(20):
                other = turned_make(rng, makes[-1], rng.choice([turned_shape, with_other_struck]))
                if cannot_follow(makes[-1], other) is None:
                    makes.append(other)
            self.in_order(makes, seen)
        self.assertIn(("none", "there"), seen)
        self.assertIn(("none", "struck"), seen)

    def in_order(self, makes, seen):
        for name in sorted({name for make in makes for name in make[1]}):
            for number in range(1, 10):
                words = self.lives(makes, name, number)
                self.assertEqual(words, sorted(words, key=["none", "there", "struck"].index))
                seen.add(tuple(dict.fromkeys(words)))


if __name__ == "__main__":
    unittest.main()
