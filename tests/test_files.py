"""Points 2, 11, 12 and 34: values kept as files, and taken from them."""

import copy
import itertools
import random
import unittest

from makes.errors import BadByte, BadItem
from makes.files import kept, taken
from makes.packing import packed, unpacked
from makes.reading import read
from tests.drawing import great_makes, small_makes, values_of
from tests.samples import PACKED, file_plainly, in_arms, in_rows, random_item
from tests.values_plainly import faults_of, item_plainly, same, value_plainly

MAKE = ("tree", {
    "tree": ("record", ((1, "name", "word", ()), (2, "age", "years", (0,)), (300, "kids", "trees", ((),))), ()),
    "word": ("text", 40),
    "years": ("whole", 0, 5000),
    "trees": ("row", "tree", 5),
})
OAK = (("oak", 300, ()), ())
OAK_FILE = (4, 10, 1, 1, 3, 111, 97, 107, 2, 0, 216, 4)


def outcome(make, file):
    try:
        return ("value", taken(make, file))
    except BadByte as refused:
        return ("at", refused.at)
    except BadItem as refused:
        return ("path", refused.path)


class Kept(unittest.TestCase):
    def test_byte_for_byte(self):
        self.assertEqual(kept(MAKE, OAK), OAK_FILE)
        self.assertEqual(kept(MAKE, (("", 0, ()), ())), (4, 3, 1, 1, 0))
        self.assertEqual(kept(MAKE, (("", 0, (OAK,)), ((7, ("whole", -1)),))),
                         (4, 22, 1, 1, 0, 7, 0, 1, 172, 2, 2, 12) + OAK_FILE)
        self.assertEqual(kept(("a", {"a": ("truth",)}), True), (0, 2))
        self.assertEqual(kept(("a", {"a": ("choice", (), (), True)}), ("other", 9, ("text", ""))), (5, 9, 1, 0))

    def test_by_the_root_form(self):
        forms = {"a": ("truth",), "b": ("text", 3), "c": ("row", "a", 3)}
        for root, value, file in [("a", False, (0, 0)), ("b", "b", (1, 1, 98)), ("c", (True,), (2, 2, 0, 2))]:
            self.assertEqual(kept((root, forms), value), file)
            self.assertTrue(same(taken((root, forms), file), value))

    def test_kinds(self):
        file = kept(MAKE, OAK)
        self.assertIsInstance(file, tuple)
        self.assertTrue(all(type(code) is int for code in file))

    def test_the_file_of_its_item(self):
        rng = random.Random(341)
        for make in small_makes(342, 200) + great_makes(343, 40):
            for own in [True, False]:
                for value in values_of(rng, make, make[0], 5, own):
                    file = kept(make, value)
                    self.assertEqual(file, file_plainly(item_plainly(make, make[0], value)))
                    self.assertTrue(same(taken(make, file), value))
                    self.assertTrue(same(taken(make, list(file)), value))


class Taken(unittest.TestCase):
    def test_lists_and_tuples(self):
        for file in [OAK_FILE, list(OAK_FILE)]:
            self.assertTrue(same(taken(MAKE, file), OAK))

    def test_no_file(self):
        for file, at in [((), 0), ([], 0), ((6,), 0), ([6], 0), ((4,), 1), (OAK_FILE[:-1], 1), (OAK_FILE + (0,), len(OAK_FILE)),
                         ((4, 3, 1, 1, 0, 0), 5), ((4, 6, 2, 0, 0, 1, 1, 0), 5)]:
            self.assertEqual(outcome(MAKE, file), ("at", at))

    def test_another_item(self):
        for item, path in [(("whole", 0), ()), (("rec", ()), (("field", 1),)), (("rec", ((1, ("whole", 0)),)), (("field", 1),)),
                           (("rec", ((1, ("text", "")), (2, ("whole", 5001)))), (("field", 2),)),
                           (("rec", ((1, ("text", "")), (300, ("row", (("rec", ()),))))), (("field", 300), ("at", 0), ("field", 1)))]:
            self.assertEqual(outcome(MAKE, packed(item)), ("path", path))
            self.assertEqual(outcome(MAKE, list(packed(item))), ("path", path))

    def test_a_bad_byte_ahead_of_a_bad_item(self):
        for item in [("whole", 0), ("row", ()), ("rec", ()), ("rec", ((1, ("whole", 0)),)), ("text", "a" * 100)]:
            file = packed(item)
            self.assertEqual(outcome(MAKE, file)[0], "path")
            self.assertEqual(outcome(MAKE, file + (0,)), ("at", len(file)))
        # The wrong sort stands ahead of the bad byte, and the byte is told all the same.
        self.assertEqual(outcome(MAKE, (2, 4, 0, 0, 0, 128)), ("at", 6))
        self.assertEqual(outcome(MAKE, (4, 7, 1, 0, 0, 2, 1, 1, 37)), ("at", 8))
        self.assertEqual(outcome(MAKE, (0, 128, 0)), ("at", 2))

    def test_a_hundred_deep(self):
        make = ("a", {"a": ("row", "a", 3)})
        value = ()
        for turn in range(99):
            value = (value,)
        self.assertEqual(outcome(make, packed(in_rows(("row", ()), 99))), ("value", value))
        self.assertEqual(outcome(make, packed(in_rows(("whole", 0), 99))), ("path", (("at", 0),) * 99))
        self.assertEqual(outcome(make, packed(in_rows(("row", ()), 100)))[0], "at")
        self.assertEqual(outcome(("a", {"a": ("choice", ((1, "x", "a"),), (), False)}), packed(in_arms(("whole", 0), 99))),
                         ("path", (("arm", 1),) * 99))

    def held(self, make, file):
        told = outcome(make, file)
        try:
            item = unpacked(file)
        except BadByte as refused:
            self.assertEqual(told, ("at", refused.at))
            return told[0]
        faults = faults_of(make, make[0], item)
        wanted = ("path", faults[0]) if faults else ("value", value_plainly(make, make[0], item))
        self.assertTrue(same(told, wanted), (make, file, told))
        return told[0]

    def test_any_bytes(self):
        seen = []
        for make in [MAKE] + small_makes(344, 40):
            for many in range(5):
                for file in itertools.product((0, 1, 2, 3, 4, 5, 97, 128), repeat=many):
                    seen.append(self.held(make, file))
            for item, file in PACKED:
                seen.append(self.held(make, list(file)))
        for sort in ["at", "path", "value"]:
            self.assertGreater(seen.count(sort), 80)

    def test_files_with_a_byte_turned(self):
        rng = random.Random(345)
        for make in small_makes(346, 60):
            for value in values_of(rng, make, make[0], 3, False):
                file = list(kept(make, value))
                for place in range(min(len(file), 60)):
                    self.held(make, file[:place] + [rng.choice([0, 1, 2, 5, 97, 128, 255])] + file[place + 1:])
                    self.held(make, file[:place] + file[place + 1:])

    def test_files_of_any_item(self):
        rng = random.Random(347)
        for make in small_makes(348, 100):
            for turn in range(10):
                self.held(make, packed(random_item(rng, 4)))


class Handed(unittest.TestCase):
    def test_what_is_handed_in_stays(self):
        make = copy.deepcopy(MAKE)
        value = copy.deepcopy(OAK)
        file = list(OAK_FILE)
        kept(make, value)
        taken(make, file)
        outcome(make, file + [1])
        self.assertEqual((make, value, tuple(file)), (MAKE, OAK, OAK_FILE))

    def test_what_is_told_is_the_askers_own(self):
        file = list(OAK_FILE)
        told = taken(MAKE, file)
        file[:] = [0, 0]
        self.assertEqual(told, OAK)
        self.assertEqual(read(MAKE, "tree", unpacked(OAK_FILE)), OAK)

    def test_the_order_of_names_is_no_matter(self):
        for names in itertools.permutations(MAKE[1]):
            make = ("tree", {name: MAKE[1][name] for name in names})
            self.assertEqual(kept(make, OAK), OAK_FILE)
            self.assertEqual(taken(make, OAK_FILE), OAK)

    def test_a_value_of_as_many_items_as_may_be(self):
        make = ("a", {"a": ("row", "b", 20), "b": ("row", "c", 20), "c": ("row", "n", 4), "n": ("text", 200)})
        value = ((("ab" * 9,) * 4,) * 20,) * 20
        file = kept(make, value)
        self.assertGreater(len(file), 30000)
        self.assertTrue(same(taken(make, file), value))


if __name__ == "__main__":
    unittest.main()
