"""Points 5, 11 and 12: the file of an item, and the item of a file."""

import itertools
import random
import unittest

from makes.errors import BadByte
from makes.items import is_item
from makes.packing import packed, unpacked
from tests.reading_plainly import outcome_plainly
from tests.samples import PACKED, ZERO, file_plainly, in_all, in_arms, in_rows, random_item

A = 97


def outcome(file):
    try:
        return ("item", unpacked(file))
    except BadByte as refused:
        return ("at", refused.at)


def some_items():
    rng = random.Random(11)
    return [item for item, file in PACKED] + [random_item(rng, 5) for place in range(300)]


def all_of(thing):
    """The thing and all that is within it."""
    told = [thing]
    if isinstance(thing, (tuple, list)):
        for part in thing:
            told.extend(all_of(part))
    return told


class Packing(unittest.TestCase):
    def test_byte_for_byte(self):
        for item, file in PACKED:
            with self.subTest(item=item):
                self.assertEqual(packed(item), file)
                self.assertIsInstance(packed(item), tuple)

    def test_others(self):
        for item in some_items():
            with self.subTest(item=item):
                self.assertEqual(packed(item), file_plainly(item))

    def test_wholes(self):
        for n in list(range(-20000, 20000, 7)) + [10 ** 18, 10 ** 18 - 1, -10 ** 18, 1 - 10 ** 18]:
            self.assertEqual(packed(("whole", n)), file_plainly(("whole", n)))
            self.assertEqual(unpacked(packed(("whole", n))), ("whole", n))

    def test_unlike_items_have_unlike_files(self):
        items = set(some_items())
        self.assertEqual(len({packed(item) for item in items}), len(items))

    def test_great_ones(self):
        texts = ("row", tuple(("text", "x" * (k % 201)) for k in range(1500)))
        maps = ("map", tuple((a + b, ("rec", ((1, ZERO), (999, ZERO)))) for a in "abcdefghijklmnop" for b in "abcdefgh"))
        for item in [texts, maps, ("arm", 3, ("row", (maps, maps)))]:
            self.assertEqual(packed(item), file_plainly(item))
            self.assertEqual(unpacked(packed(item)), item)

    def test_deep_ones(self):
        for item in [in_arms(ZERO, 99), in_rows(ZERO, 99), in_rows(("row", ()), 99), in_all(ZERO, 33)]:
            self.assertEqual(packed(item), file_plainly(item))
            self.assertEqual(unpacked(packed(item)), item)
            self.assertEqual(packed(unpacked(packed(item))), packed(item))
            self.assertIs(is_item(unpacked(packed(item))), True)


class Unpacking(unittest.TestCase):
    def test_the_item_again(self):
        for item, file in PACKED:
            with self.subTest(item=item):
                self.assertEqual(unpacked(file), item)
                self.assertEqual(unpacked(list(file)), item)

    def test_others(self):
        for item in some_items():
            with self.subTest(item=item):
                file = packed(item)
                self.assertEqual(unpacked(file), item)
                self.assertEqual(unpacked(list(file)), item)
                self.assertEqual(packed(unpacked(list(file))), file)

    def test_kinds_of_what_is_told(self):
        for item in some_items():
            told = unpacked(list(packed(item)))
            self.assertIs(is_item(told), True)
            for thing in all_of(told):
                self.assertIn(type(thing), (tuple, str, int))

    def test_what_is_handed_in_stays(self):
        for item, file in PACKED:
            handed = list(file)
            unpacked(handed)
            self.assertEqual(handed, list(file))
            outcome(handed[:-1])
            self.assertEqual(handed, list(file))


class Refused(unittest.TestCase):
    def refused(self, file, at):
        with self.subTest(file=file):
            self.assertEqual(outcome(tuple(file)), ("at", at))
            self.assertEqual(outcome(list(file)), ("at", at))

    def read(self, file, item):
        with self.subTest(file=file):
            self.assertEqual(outcome(tuple(file)), ("item", item))

    def test_no_bytes(self):
        self.refused((), 0)

    def test_heads(self):
        for head in range(6, 256):
            self.refused((head,), 0)
            self.refused((head, 0), 0)
            self.refused((2, 2, head, 0), 2)
            self.refused((2, 4, 0, 0, head, 0), 4)
            self.refused((3, 4, 1, A, head, 0), 4)
            self.refused((4, 3, 1, head, 0), 3)
            self.refused((5, 1, head, 0), 2)

    def test_a_hundred_and_first_head(self):
        for head in range(6):
            self.refused((5, 1) * 100 + (head, 0), 200)
            self.refused((5, 1) * 100 + (head,), 200)
        self.refused((5, 1) * 100, 200)
        self.refused((5, 1) * 150 + (0, 0), 200)
        self.read((5, 1) * 99 + (0, 0), in_arms(ZERO, 99))
        self.read((5, 1) * 99 + (2, 0), in_arms(("row", ()), 99))
        self.refused((5, 1) * 99 + (2, 2, 0, 0), 200)
        self.refused((5, 1) * 99 + (3, 4, 1, A, 0, 0), 202)
        self.refused((5, 1) * 99 + (4, 3, 1, 0, 0), 201)
        file = file_plainly(in_rows(("text", "x"), 100))
        self.refused(file, len(file) - 3)
        file = file_plainly(in_all(("arm", 1, ZERO), 33))
        self.refused(file, len(file) - 2)
        file = file_plainly(("row", (in_arms(ZERO, 98), in_arms(ZERO, 99), ZERO)))
        self.refused(file, len(file) - 4)

    def test_how_deep_is_told_anew_for_each_part(self):
        item = ("row", (in_arms(ZERO, 98),) * 3)
        self.read(file_plainly(item), item)

    def test_a_whole_above_its_most(self):
        most = (128, 128, 160, 246, 244, 172, 219, 224, 27)
        self.read((0,) + most, ("whole", 10 ** 18))
        self.read((0, 255, 255, 159) + most[3:], ("whole", -10 ** 18))
        self.refused((0, 129) + most[1:], 9)
        self.refused((0,) + most[:8] + (28,), 9)
        self.refused((0,) + most[:8] + (127,), 9)
        self.refused((0,) + most[:8] + (156, 1), 9)
        self.refused((0, 129) + most[1:8] + (155, 0), 9)
        self.refused((0,) + most[:8] + (155, 1), 10)
        self.refused((0,) + most[:8] + (155, 0), 10)
        self.refused((0,) + most[:8] + (155, 128, 0), 11)
        self.refused((0,) + most[:8] + (155, 128, 128, 129), 12)
        self.refused((0,) + most[:8] + (155,), 10)
        self.read((0,) + (255,) * 8 + (26,), ("whole", -27 * 128 ** 8 // 2))
        self.refused((0,) + (255,) * 8 + (27,), 9)
        self.refused((0,) + (255,) * 20, 9)

    def test_a_count_of_signs_above_its_most(self):
        self.read((1, 200, 1) + (A,) * 200, ("text", "a" * 200))
        self.refused((1, 201, 1) + (A,) * 201, 2)
        self.refused((1, 201, 1), 2)
        self.refused((1, 201, 129, 0), 2)
        self.refused((1, 200, 129, 0), 3)
        self.refused((1, 200, 129, 1), 3)
        self.refused((1, 255, 1), 2)
        self.refused((1, 128, 2), 2)
        self.refused((1, 128, 127), 2)
        self.refused((1, 128, 128, 1), 3)

    def test_a_count_of_letters_above_its_most(self):
        key = tuple(range(A, A + 8))
        self.read((3, 11, 8) + key + (0, 0), ("map", (("abcdefgh", ZERO),)))
        self.refused((3, 12, 9) + key + (A, 0, 0), 2)
        self.refused((3, 1, 9), 2)
        for count in [10, 127, 137, 255]:
            self.refused((3, 12, count) + key + (A, 0, 0), 2)
        self.refused((3, 12, 136, 0) + key + (0, 0), 3)
        self.refused((3, 12, 136, 1) + key + (0, 0), 3)
        self.refused((3, 12, 128, 1) + key + (0, 0), 3)
        self.refused((3, 12, 136, 128) + (0,) * 10, 4)
        self.refused((3, 12, 136, 129) + (0,) * 10, 3)

    def test_a_number_above_its_most(self):
        self.read((5, 231, 7, 0, 0), ("arm", 999, ZERO))
        self.read((4, 4, 231, 7, 0, 0), ("rec", ((999, ZERO),)))
        for ahead in [(5,), (4, 4)]:
            at = len(ahead)
            self.refused(ahead + (232, 7, 0, 0), at + 1)
            self.refused(ahead + (232, 135, 0, 0), at + 1)
            self.refused(ahead + (128, 8, 0, 0), at + 1)
            self.refused(ahead + (255, 127, 0, 0), at + 1)
            self.refused(ahead + (231, 135, 0, 0), at + 2)
            self.refused(ahead + (231, 135, 1, 0), at + 2)
            self.refused(ahead + (128, 128, 1, 0), at + 2)
            self.refused(ahead + (128, 128, 128, 1), at + 3)

    def test_a_size_above_its_most(self):
        for head in [2, 3, 4]:
            self.refused((head, 192, 132, 189, 0), 4)
            self.refused((head, 192, 132, 189), 4)
            self.refused((head, 193, 132, 189, 0), 3)
            self.refused((head, 193, 132, 189), 3)
            self.refused((head, 192, 132, 190, 0), 3)
            self.refused((head, 192, 132, 61), 3)
            self.refused((head, 255, 255, 255, 0), 3)
            self.refused((head, 128, 128, 128, 1), 4)
            self.refused((head, 128, 128, 128, 128, 1), 5)

    def test_a_needless_last_0(self):
        self.refused((0, 128, 0), 2)
        self.refused((0, 129, 0), 2)
        self.refused((0, 255, 128, 0), 3)
        self.refused((0,) + (128,) * 30 + (0,), 31)
        self.refused((1, 128, 0), 2)
        self.refused((1, 129, 0, A), 2)
        self.refused((2, 128, 0), 2)
        self.refused((2, 130, 0, 0, 0), 2)
        self.refused((3, 128, 0), 2)
        self.refused((4, 128, 0), 2)
        self.refused((3, 5, 129, 0, A, 0, 0), 3)
        self.refused((4, 4, 129, 0, 0, 0), 3)
        self.refused((5, 129, 0, 0, 0), 2)
        self.refused((5, 128, 0, 0, 0), 2)

    def test_a_number_or_a_count_of_letters_that_is_0(self):
        self.refused((5, 0, 0, 0), 1)
        self.refused((5, 1, 5, 0, 0, 0), 3)
        self.refused((4, 3, 0, 0, 0), 2)
        self.refused((4, 6, 1, 0, 0, 0, 0, 0), 5)
        self.refused((3, 3, 0, 0, 0), 2)
        self.refused((3, 7, 1, A, 0, 0, 0, 0, 0), 6)

    def test_a_size_beyond_its_room(self):
        for head in [2, 3, 4]:
            self.refused((head, 1), 1)
            self.refused((head, 3, 0, 0), 1)
            self.refused((head, 128, 1) + (0,) * 127, 2)
            self.refused((head, 192, 132, 61, 0), 3)
            self.refused((2, 2, head, 1, 0, 0), 3)
            self.refused((2, 4, head, 3, 0, 0, 0, 0, 0), 3)
            self.refused((2, 5, head, 129, 1, 0, 0) + (0,) * 200, 4)
            self.refused((5, 1, head, 1), 3)
            self.refused((2, 3, 5, 1, head, 1), 5)
            self.refused((3, 4, 1, A, head, 9), 5)
            self.refused((4, 3, 1, head, 9), 4)
        self.read((2, 2, 2, 0), ("row", (("row", ()),)))

    def test_a_recs_number_that_does_not_rise(self):
        self.refused((4, 6, 1, 0, 0, 1, 0, 0), 5)
        self.refused((4, 6, 2, 0, 0, 1, 0, 0), 5)
        self.refused((4, 9, 1, 0, 0, 3, 0, 0, 2, 0, 0), 8)
        self.refused((4, 8, 231, 7, 0, 0, 231, 7, 0, 0), 7)
        self.refused((4, 8, 231, 7, 0, 0, 128, 1, 0, 0), 7)
        self.refused((4, 7, 128, 1, 0, 0, 127, 0, 0), 6)
        self.read((4, 7, 127, 0, 0, 128, 1, 0, 0), ("rec", ((127, ZERO), (128, ZERO))))

    def test_numbers_rise_in_each_rec_by_itself(self):
        inner = ("rec", ((1, ZERO), (2, ZERO)))
        item = ("rec", ((1, inner), (2, inner), (3, ("arm", 1, inner))))
        self.read(file_plainly(item), item)
        inner = ("map", (("a", ZERO), ("b", ZERO)))
        item = ("map", (("a", inner), ("b", inner), ("c", ("row", (inner, inner)))))
        self.read(file_plainly(item), item)

    def test_a_texts_code(self):
        for code in range(256):
            right = 32 <= code <= 126 and code != 37
            if right:
                self.read((1, 3, A, code, A), ("text", "a" + chr(code) + "a"))
            else:
                self.refused((1, 1, code), 2)
                self.refused((1, 3, A, code, A), 3)
                self.refused((1, 3, A, A, code), 4)
                self.refused((1, 3, code, code, code), 2)
                self.refused((1, 3, A, code), 3)
                self.refused((2, 5, 0, 0, 1, 1, code), 6)

    def test_a_keys_code(self):
        for code in range(256):
            if A <= code <= 122:
                self.read((3, 5, 2, code, A, 0, 0), ("map", ((chr(code) + "a", ZERO),)))
            else:
                self.refused((3, 4, 1, code, 0, 0), 3)
                self.refused((3, 5, 2, code, A, 0, 0), 3)
                self.refused((3, 5, 2, A, code, 0, 0), 4)
                self.refused((3, 6, 3, A, code, code, 0, 0), 4)

    def test_a_key_that_does_not_rise(self):
        self.refused((3, 8, 1, A, 0, 0, 1, A, 0, 0), 7)
        self.refused((3, 8, 1, A + 1, 0, 0, 1, A, 0, 0), 7)
        self.refused((3, 9, 1, A + 1, 0, 0, 2, A, A, 0, 0), 8)
        self.refused((3, 9, 2, A, A, 0, 0, 1, A, 0, 0), 8)
        self.refused((3, 10, 2, A, A + 1, 0, 0, 2, A, A, 0, 0), 9)
        self.refused((3, 10, 2, A, A, 0, 0, 2, A, A, 0, 0), 9)
        self.refused((3, 12, 1, A, 0, 0, 1, A + 2, 0, 0, 1, A + 1, 0, 0), 11)
        self.read((3, 9, 1, A, 0, 0, 2, A, A, 0, 0), ("map", (("a", ZERO), ("aa", ZERO))))
        self.read((3, 9, 2, A, A, 0, 0, 1, A + 1, 0, 0), ("map", (("aa", ZERO), ("b", ZERO))))

    def test_a_key_that_does_not_rise_and_has_a_wrong_code(self):
        self.refused((3, 9, 1, A + 1, 0, 0, 2, 65, A, 0, 0), 7)
        self.refused((3, 9, 1, A + 1, 0, 0, 2, A, 65, 0, 0), 8)

    def test_a_byte_behind_the_files_item(self):
        for item, file in PACKED:
            for behind in [(0,), (255,), (0, 0), file]:
                self.refused(file + behind, len(file))

    def test_an_item_beyond_its_room(self):
        self.refused((2, 1, 0), 3)
        self.refused((2, 1, 0, 0), 3)
        self.refused((2, 2, 0, 128), 4)
        self.refused((2, 5, 2, 1, 0, 0, 0), 5)
        self.refused((2, 7, 2, 2, 0, 128, 1, 0, 0), 6)
        self.refused((2, 6, 2, 1, 1, 1, A, 0), 5)
        self.refused((2, 6, 2, 3, 1, 2, A, A), 7)
        self.refused((2, 6, 2, 1, 5, 1, 0, 0), 5)
        self.refused((2, 6, 2, 2, 5, 1, 0, 0), 6)
        self.refused((2, 6, 2, 3, 5, 1, 0, 0), 7)
        self.refused((2, 6, 2, 1, 2, 0, 0, 0), 5)
        self.refused((3, 1, 1), 3)
        self.refused((3, 2, 1, A), 4)
        self.refused((3, 2, 2, A), 4)
        self.refused((3, 3, 1, A, 0), 5)
        self.refused((2, 7, 3, 2, 1, A, 0, 0, 0), 6)
        self.refused((4, 1, 1), 3)
        self.refused((4, 1, 128), 3)
        self.refused((4, 2, 1, 0), 4)
        self.refused((2, 6, 4, 1, 1, 0, 0, 0), 5)
        self.refused((2, 6, 4, 2, 1, 0, 0, 0), 6)
        self.refused((2, 6, 4, 1, 129, 1, 0, 0), 5)

    def test_cut_off_at_each_place(self):
        for item in [("whole", 10 ** 18), ("text", "a" * 200), ("text", "abc"), ("arm", 999, ("text", "xy")),
                     in_arms(("whole", 64), 50), ("arm", 1, ("row", ()))]:
            file = packed(item)
            for end in range(len(file)):
                self.refused(file[:end], end)
        for item in [("row", (ZERO,) * 3), ("row", (ZERO,) * 200), ("map", (("a", ZERO), ("b", ("text", "abc")))),
                     ("rec", ((1, ZERO), (999, ("row", (ZERO, ZERO)))))]:
            file = packed(item)
            size_ends = 1 if file[1] < 128 else 2
            for end in range(len(file)):
                self.refused(file[:end], min(end, size_ends))

    def test_cut_off_as_the_document_tells(self):
        for item in some_items():
            file = packed(item)
            for end in range(len(file)):
                self.assertEqual(outcome(file[:end]), outcome_plainly(file[:end]))


class AnyBytes(unittest.TestCase):
    def held(self, file):
        told = outcome(file)
        if told != outcome_plainly(file):
            self.fail(f"{file}: {told}, not {outcome_plainly(file)}")
        if told[0] == "item" and packed(told[1]) != file:
            self.fail(f"{file}: packed again as {packed(told[1])}")

    def test_all_short_ones(self):
        for file in itertools.product(range(256), repeat=2):
            self.held(file)
        for many in range(6):
            for file in itertools.product((0, 1, 2, 3, 4, 5, 6, A, 128, 129), repeat=many):
                self.held(file)

    def test_longer_ones(self):
        rng = random.Random(12)
        for turn in range(20000):
            self.held(tuple(rng.choice((0, 1, 2, 3, 4, 5, A, A + 1, 128, rng.randrange(256)))
                            for place in range(rng.randint(4, 16))))

    def test_files_with_a_byte_turned(self):
        rng = random.Random(13)
        for item in some_items():
            file = list(packed(item))
            if len(file) > 120:
                continue
            for place in range(len(file)):
                for code in [0, 1, 5, 6, 37, A, 127, 128, file[place] + 1, file[place] - 1, rng.randrange(256)]:
                    self.held(tuple(file[:place] + [code % 256] + file[place + 1:]))
                self.held(tuple(file[:place] + file[place + 1:]))
                self.held(tuple(file[:place] + [rng.randrange(256)] + file[place:]))

    def test_long_rows_of_one_byte(self):
        for code in range(256):
            self.held((code,) * 300)
        for head in range(6):
            self.assertEqual(outcome((head,) + (128,) * 39999), ("at", 40000))


if __name__ == "__main__":
    unittest.main()
