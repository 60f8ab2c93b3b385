"""Points 2, 5 and 48 to 50: deciding whether the other make reads, or keeps, the one."""

import copy
import itertools
import random
import unittest

from makes.checker import lets_keep, lets_read
from makes.deciding import keeps, reads
from makes.files import kept, taken
from makes.forms import is_make
from makes.items import count_of, deep_of, is_item
from makes.lessening import lessened
from makes.values import is_own
from makes.writing import written
from tests.drawing import great_makes, make_pairs, small_makes, values_of
from tests.papers_plainly import all_pairs, empties_plainly, is_kept, is_read, least_counts, struck
from tests.samples import choice, record
from tests.values_plainly import same

TRUTH = ("truth",)
NUMBER = ("whole", 0, 5)


class Held(unittest.TestCase):
    def held(self, make, other):
        """Both answers, each looked at: of reading and of keeping "paper" or "value"."""
        self.assertTrue(is_make(make) and is_make(other), (make, other))
        read = reads(make, other)
        keep = keeps(make, other)
        for told, lets, is_so in [(read, lets_read, is_read), (keep, lets_keep, is_kept)]:
            self.assertIs(type(told), tuple)
            self.assertEqual(len(told), 2)
            if told[0] == "paper":
                self.assertTrue(lets(make, other, told[1]), (make, other, told))
            else:
                self.assertEqual(told[0], "value")
                self.assertTrue(is_own(make, make[0], told[1]), (make, other, told))
                self.assertFalse(is_so(make, other, told[1]), (make, other, told))
                self.small_enough(make, told[1])
        return (read[0], keep[0])

    def small_enough(self, make, value):
        item = written(make, make[0], value)
        self.assertLessEqual(count_of(item), 50000)
        self.assertLessEqual(deep_of(item), 90)
        self.assertTrue(is_item(item))

    def told(self, make, other, read, keep):
        with self.subTest(make=make, other=other):
            self.assertEqual(self.held(make, other), (read, keep))


class OneThing(Held):
    """Makes that are unlike in one thing: by itself, and deep within rows, maps, records and arms."""

    PARTS = {"t": TRUTH, "e": choice(), "r": ("row", "t", 3)}

    def makes(self, shape, parts):
        forms = dict(self.PARTS, of=shape)
        forms.update(parts)
        yield ("of", forms)
        for around in [("row", "of", 3), ("map", "of", 3), record("t", "of"), choice("t", "of")]:
            yield ("w", dict(forms, w=around))
        yield ("w", dict(forms, w=("row", "x", 2), x=record("t", "y"), y=choice("w", "of")))
        yield ("w", dict(forms, w=record("t", left_out=[("x", ())]), x=("map", "of", 2)))

    def one(self, shape, other_shape, read, keep=None, parts=(), other_parts=()):
        keep = read if keep is None else keep
        for make, other in zip(self.makes(shape, dict(parts)), self.makes(other_shape, dict(other_parts))):
            self.told(make, other, read, keep)

    def test_wholes_and_truths(self):
        self.one(NUMBER, NUMBER, "paper")
        self.one(NUMBER, ("whole", -1, 6), "paper")
        self.one(NUMBER, ("whole", 1, 5), "value")
        self.one(NUMBER, ("whole", 0, 4), "value")
        self.one(NUMBER, ("whole", 1, 4), "value")
        self.one(NUMBER, ("whole", 7, 9), "value")
        self.one(NUMBER, ("whole", -7, -6), "value")
        self.one(("whole", -10 ** 18, 10 ** 18), ("whole", -10 ** 18, 10 ** 18), "paper")
        self.one(("whole", -10 ** 18, 10 ** 18), ("whole", 1 - 10 ** 18, 10 ** 18), "value")
        self.one(TRUTH, TRUTH, "paper")
        self.one(TRUTH, ("whole", 0, 1), "paper")
        self.one(TRUTH, ("whole", 0, 0), "value")
        self.one(TRUTH, ("whole", 1, 1), "value")
        self.one(("whole", 0, 1), TRUTH, "paper")
        self.one(("whole", 1, 1), TRUTH, "paper")
        self.one(("whole", 0, 2), TRUTH, "value")
        self.one(("whole", -1, 1), TRUTH, "value")

    def test_texts(self):
        for most, other_most in itertools.product([0, 1, 2, 199, 200], repeat=2):
            self.one(("text", most), ("text", other_most), "paper" if most <= other_most else "value")

    def test_rows_and_maps(self):
        for sort in ["row", "map"]:
            for most, other_most in itertools.product([0, 1, 19, 20], repeat=2):
                self.one((sort, "t", most), (sort, "t", other_most), "paper" if most <= other_most else "value")
            self.one((sort, "t", 0), (sort, "r", 0), "paper")
            self.one((sort, "t", 1), (sort, "r", 1), "value")
            self.one((sort, "t", 20), (sort, "r", 20), "value")
            self.one((sort, "e", 20), (sort, "r", 0), "paper")
            self.one((sort, "of", 20), (sort, "of", 20), "paper")
            self.one((sort, "of", 20), (sort, "of", 2), "value")

    def test_unlike_sorts(self):
        shapes = [NUMBER, ("text", 0), ("row", "t", 0), ("map", "t", 0), record(), choice("t")]
        for one, other in itertools.product(shapes, repeat=2):
            self.one(one, other, "paper" if one == other else "value")
        self.one(("row", "t", 0), ("map", "t", 0), "value")

    def test_fields(self):
        self.one(record("t"), record("t"), "paper")
        self.one(record("t"), record("r"), "value")
        self.one(record("t"), record(), "paper")
        self.one(record(), record("t"), "value")
        self.one(record(), record("e"), "value")
        self.one(record(), record(left_out=[("t", True)]), "paper")
        self.one(record("t"), record("t", left_out=[("t", True)]), "paper")
        self.one(record("t"), record("t", "t"), "value")
        self.one(record("t", "r"), record("t"), "paper")

    def test_fields_that_may_be_left_out(self):
        for default, other_default in itertools.product([True, False], repeat=2):
            self.one(record(left_out=[("t", default)]), record(left_out=[("t", other_default)]),
                     "paper" if default == other_default else "value")
        self.one(record(left_out=[("t", True)]), record("t"), "value")
        self.one(record(left_out=[("r", ())]), record(left_out=[("r", ())]), "paper")
        self.one(record(left_out=[("r", ())]), record("r"), "value")
        self.one(record(left_out=[("t", True)]), record(), "paper")

    def left_out(self, shape, default, other_shape, other_default, read, keep=None):
        """A field of the one that may be left out where a default is told, and so of the other."""
        shapes = []
        for some in [default, other_default]:
            shapes.append(record("p") if some is None else record(left_out=[("p", some)]))
        self.one(shapes[0], shapes[1], read, keep, {"p": shape}, {"p": other_shape})

    def test_defaults_that_can_not_be_read(self):
        """Where just the default is no value of the other's form, or is another one there."""
        self.left_out(NUMBER, 5, ("whole", 0, 4), 0, "value")
        self.left_out(NUMBER, 5, ("whole", 0, 4), 4, "value")
        self.left_out(NUMBER, 4, ("whole", 0, 4), 4, "value")
        self.left_out(NUMBER, 1, TRUTH, True, "value")
        self.left_out(("whole", 0, 1), 1, TRUTH, True, "paper")
        self.left_out(("whole", 0, 1), 1, TRUTH, False, "value")
        self.left_out(TRUTH, True, NUMBER, 1, "paper")
        self.left_out(TRUTH, True, NUMBER, 0, "value")
        self.left_out(TRUTH, True, NUMBER, 2, "value")
        self.left_out(("text", 3), "abc", ("text", 2), "ab", "value")
        self.left_out(("text", 2), "ab", ("text", 3), "ab", "paper")
        self.left_out(("text", 2), "ab", ("text", 3), "abc", "value")
        self.left_out(("row", "t", 3), (), ("map", "t", 3), (), "value")
        self.left_out(("row", "t", 3), (), ("row", "t", 2), (), "value")
        self.left_out(("row", "t", 0), (), ("row", "r", 0), (), "paper")
        self.left_out(NUMBER, 0, ("text", 2), "", "value")

    def test_a_part_that_is_not_read_in_a_field_that_may_be_left_out(self):
        for sort in ["row", "map"]:
            self.left_out((sort, "r", 3), (), (sort, "t", 3), (), "value")
            self.left_out((sort, "r", 3), (), (sort, "r", 3), (), "paper")

    def test_keeping_wholes_and_truths(self):
        for low, high, keep in [(0, 5, "value"), (3, 3, "value"), (4, 9, "paper"), (-9, 2, "paper"), (3, 9, "value"), (-9, 3, "value")]:
            self.left_out(("whole", low, high), None, ("whole", -9, 9), 3, "paper", keep)
        for default, keep in [(0, "value"), (1, "value"), (2, "paper"), (-1, "paper")]:
            self.left_out(TRUTH, None, ("whole", -9, 9), default, "paper", keep)
        for default in [True, False]:
            self.left_out(TRUTH, None, TRUTH, default, "paper", "value")
            self.left_out(("whole", 0, 0), None, TRUTH, default, "paper", "paper" if default else "value")
            self.left_out(("whole", 1, 1), None, TRUTH, default, "paper", "value" if default else "paper")

    def test_keeping_texts(self):
        for most, default, keep in [(3, "abc", "value"), (3, "", "value"), (2, "abc", "paper"), (0, "", "value"), (0, " ", "paper")]:
            self.left_out(("text", most), None, ("text", 3), default, "paper", keep)

    def test_keeping_rows_and_maps(self):
        for sort in ["row", "map"]:
            for most in [0, 1, 3]:
                self.left_out((sort, "t", most), None, (sort, "t", 3), (), "paper", "value")
            self.left_out((sort, "t", 3), (), (sort, "t", 3), (), "paper")

    def test_keeping_where_it_is_not_even_read(self):
        self.left_out(NUMBER, None, ("text", 3), "abc", "value")
        self.left_out(("text", 3), None, NUMBER, 3, "value")
        self.left_out(("row", "t", 3), None, ("map", "t", 3), (), "value")
        self.left_out(NUMBER, None, ("whole", 0, 4), 3, "value")
        self.left_out(NUMBER, None, ("row", "t", 3), (), "value")
        self.left_out(record("t"), None, ("text", 3), "abc", "value")
        self.left_out(choice("t"), None, NUMBER, 3, "value")

    def test_arms(self):
        for wide, other_wide in itertools.product([True, False], repeat=2):
            open_only = "paper" if other_wide else "value"
            self.one(choice("t", wide=wide), choice("t", wide=other_wide), "paper")
            self.one(choice("t", "r", wide=wide), choice("t", wide=other_wide), open_only)
            self.one(choice("t", "e", wide=wide), choice("t", wide=other_wide), "paper")
            self.one(choice("t", "r", wide=wide), choice("t", "t", wide=other_wide), "value")
            self.one(choice("t", "e", wide=wide), choice("t", "t", wide=other_wide), "paper")
            self.one(choice("t", wide=wide), choice("t", "r", wide=other_wide), "paper")
            self.one(choice("t", wide=wide), choice(wide=other_wide), open_only)
            self.one(choice("t", wide=wide), choice("e", wide=other_wide), "value")

    def test_struck_numbers_are_no_matter(self):
        self.one(("record", ((1, "x", "t", ()),), (2,)), ("record", (), (1,)), "paper")
        self.one(("choice", ((1, "x", "t"),), (2,), False), ("choice", (), (1,), True), "paper")
        self.one(("choice", ((1, "x", "t"),), (2,), False), ("choice", (), (1,), False), "value")


class Makes(Held):
    def test_alike(self):
        for make in small_makes(481, 200) + great_makes(482, 60):
            self.told(make, make, "paper", "paper")

    def test_empty_roots(self):
        for root in ["e", "f", "g"]:
            make = (root, {"e": choice(), "f": record("t", "e"), "g": choice("e", "f"), "t": TRUTH})
            for shape in [TRUTH, ("text", 3), ("row", "a", 3), record("a"), choice(), choice("a", wide=True)]:
                self.told(make, ("a", {"a": shape}), "paper", "paper")
        self.told(("a", {"a": ("row", "a", 3)}), ("e", {"e": choice()}), "value", "value")

    def test_the_other_has_no_own_values(self):
        self.told(("a", {"a": record("t"), "t": TRUTH}), ("a", {"a": record("e"), "e": choice()}), "value", "value")
        self.told(("a", {"a": choice("t"), "t": TRUTH}), ("a", {"a": choice(wide=True)}), "paper", "paper")
        self.told(("a", {"a": ("row", "t", 0), "t": TRUTH}), ("a", {"a": ("row", "e", 3), "e": choice()}), "paper", "paper")

    def test_forms_that_go_round(self):
        tree = {"a": record("s", "b"), "b": ("row", "a", 5), "s": ("text", 5)}
        self.told(("a", tree), ("a", tree), "paper", "paper")
        self.told(("a", tree), ("x", {"x": record("y", "z"), "z": ("row", "x", 5), "y": ("text", 9)}), "paper", "paper")
        self.told(("a", tree), ("x", {"x": record("y", "z"), "z": ("row", "v", 5), "y": ("text", 5),
                                      "v": record("y", "u"), "u": ("row", "x", 5)}), "paper", "paper")
        self.told(("a", tree), ("x", {"x": record("y", "z"), "z": ("row", "v", 5), "y": ("text", 5),
                                      "v": record("q", "z"), "q": ("text", 4)}), "value", "value")
        self.told(("a", tree), ("x", {"x": record("y", "z"), "z": ("row", "v", 5), "y": ("text", 5),
                                      "v": record("y", "u"), "u": ("row", "x", 4)}), "value", "value")

    def test_what_is_known_there_under_another_name(self):
        make = ("a", {"a": ("record", ((1, "x", "t", ()), (2, "y", "n", ())), ()), "t": TRUTH, "n": NUMBER})
        for other_of, read in [(("t", "n"), "paper"), (("n", "n"), "paper"), (("n", "t"), "value"), (("t", "t"), "value")]:
            other = ("a", {"a": ("record", ((1, "y", other_of[0], ()), (2, "x", other_of[1], ())), ()), "t": TRUTH, "n": NUMBER})
            self.told(make, other, read, read)

    def test_values_that_lie_deep(self):
        """Eight forms in a ring against seven: just one of the 56 pairs is wrong, and it comes last."""
        for sort in ["row", "map"]:
            make = ("a", {one: (sort, other, 2 if one == "h" else 1) for one, other in zip("abcdefgh", "bcdefgha")})
            other = ("a", {one: (sort, two, 1 if one == "g" else 2) for one, two in zip("abcdefg", "bcdefga")})
            self.told(make, other, "value", "value")
            self.assertEqual(deep_of(written(make, "a", reads(make, other)[1])), 57)
            fine = ("a", dict(other[1], g=(sort, "a", 2)))
            self.told(make, fine, "paper", "paper")

    def test_records_that_lie_deep(self):
        make = ("a", {"a": record("t", "t", left_out=[("q", ())]), "q": ("row", "b", 1), "b": record("t", left_out=[("r", ())]),
                      "r": ("map", "c", 2), "c": choice("a", "t", "d"), "d": ("row", "c", 1), "t": TRUTH})
        forms = {"a": record("t", "t", left_out=[("q", ())]), "q": ("row", "b", 1), "b": record("t", left_out=[("r", ())]),
                 "r": ("map", "c", 2), "c": choice("x", "t", "d"), "x": record("t", "t", left_out=[("q", ())]),
                 "d": ("row", "t", 1), "t": TRUTH}
        self.told(make, ("a", forms), "value", "value")
        self.told(make, ("a", dict(forms, d=("row", "c", 1))), "paper", "paper")

    def test_beside_what_is_wrong_stands_what_must_be_there(self):
        forms = {"a": record(*["p"] * 7, left_out=[("r", ())]), "p": record(*["t"] * 8), "t": TRUTH, "r": ("row", "a", 20)}
        make = ("a", forms)
        for most in [0, 5, 19]:
            self.told(make, ("a", dict(forms, r=("row", "a", most))), "value", "value")
        other = ("a", dict(forms, r=("row", "b", 20), b=record(*["p"] * 7, left_out=[("s", ())]), s=("row", "c", 20),
                           c=record(*["p"] * 7, left_out=[("u", ())]), u=("row", "a", 19)))
        self.told(make, other, "value", "value")
        value = reads(make, other)[1]
        self.assertGreater(count_of(written(make, "a", value)), 1000)

    def test_files_show_it(self):
        """Of the value told the file is refused, or taken as one that doesn't tell alike."""
        make = ("a", {"a": ("row", "n", 3), "n": NUMBER})
        other = ("a", {"a": ("row", "n", 3), "n": ("whole", 0, 4)})
        told = reads(make, other)
        with self.assertRaises(ValueError):
            taken(other, kept(make, told[1]))


class Drawn(Held):
    def test_any_two_makes(self):
        seen = []
        rng = random.Random(491)
        for make, other in make_pairs(492, 1500):
            outcome = self.held(make, other)
            seen.append(outcome)
            for value in values_of(rng, make, make[0], 4):
                if outcome[0] == "paper":
                    self.assertTrue(is_read(make, other, value), (make, other, value))
                if outcome[1] == "paper":
                    self.assertTrue(is_kept(make, other, value), (make, other, value))
        self.assertEqual(seen.count(("value", "paper")), 0)
        self.assertGreater(seen.count(("paper", "value")), 15)
        self.assertGreater(seen.count(("value", "value")), 200)
        self.assertGreater(seen.count(("paper", "paper")), 500)

    def test_a_paper_wherever_there_is_one(self):
        for make, other in make_pairs(493, 500):
            for decide, keeping in [(reads, False), (keeps, True)]:
                paper = struck(make, other, all_pairs(make, other), empties_plainly(make), keeping)
                there = make[0] in paper[1] or (make[0], other[0]) in paper[0]
                self.assertEqual(decide(make, other)[0], "paper" if there else "value", (make, other))

    def test_great_makes(self):
        makes = [make for make in great_makes(494, 120) if within_bounds(make)]
        for make, other in zip(makes, makes[1:]):
            self.held(make, other)
            self.assertEqual(self.held(make, make), ("paper", "paper"))

    def test_papers_can_be_handed_in_again(self):
        for make, other in make_pairs(495, 300):
            for told in [reads(make, other), keeps(make, other)]:
                if told[0] == "paper":
                    self.assertLessEqual(len(told[1][0]), 64)
                    self.assertTrue(lets_read(make, other, lessened(make, other, told[1])))

    def test_values_can_be_handed_in_again(self):
        for make, other in make_pairs(496, 300):
            told = keeps(make, other)
            if told[0] == "value":
                self.assertTrue(same(taken(make, kept(make, told[1])), told[1]))

    def test_what_is_handed_in_stays(self):
        for make, other in make_pairs(497, 200):
            before = copy.deepcopy((make, other))
            reads(make, other)
            keeps(make, other)
            self.assertEqual((make, other), before)
            self.assertEqual((list(make[1]), list(other[1])), (list(before[0][1]), list(before[1][1])))

    def test_the_order_of_names_is_no_matter(self):
        for make, other in make_pairs(498, 200):
            turned = [(some[0], {name: some[1][name] for name in sorted(some[1], reverse=True)}) for some in (make, other)]
            self.assertEqual(self.held(make, other), self.held(turned[0], turned[1]))


def within_bounds(make):
    """Each form that isn't empty has a least value of at most 100 items."""
    return all(count is not None or name in empties_plainly(make) for name, count in least_counts(make, 100).items())


if __name__ == "__main__":
    unittest.main()
