"""Point 15: bundles are as the lists of their files."""

import copy
import random
import unittest

from makes.bundles import bundled, cut, joined, many_in, nth
from makes.errors import NoPlace
from makes.packing import packed, unpacked
from tests.samples import PACKED, ZERO, random_item


def some_lists():
    rng = random.Random(31)
    files = [file for item, file in PACKED]
    lists = [[], [(0, 0)], [(0, 0)] * 2, [(2, 0)], [(2, 0), (2, 0)], [(1, 0), (1, 0), (0, 0)], files, files + files]
    lists += [[packed(random_item(rng, 4)) for place in range(rng.choice([1, 2, 3, 7, 20]))] for turn in range(20)]
    lists += [[(0, 0)] * 63, [(0, 0)] * 64, [(0, 0)] * 100, [packed(("row", (ZERO,) * 1000))] * 30]
    return lists


def strange_lists():
    """Files with any bytes in their texts' codes and in their rooms."""
    rng = random.Random(32)
    lists = []
    for turn in range(60):
        files = []
        for place in range(rng.randint(1, 8)):
            many = rng.choice([0, 1, 5, 127])
            arms = rng.choice([(), (5, 1), (5, 231, 7, 5, 2), (5, 1) * 40])
            files.append(arms + (rng.choice([1, 2, 3, 4]), many) + tuple(rng.randrange(256) for byte in range(many)))
        lists.append(files)
    lists.append([(2, 3, 255, 255, 255), (0, 128, 1), (1, 128, 1) + (0,) * 128, (4, 200, 1) + (255,) * 200])
    return lists


class AsLists(unittest.TestCase):
    def test_by_hand(self):
        self.assertEqual(bundled([]), (2, 0))
        self.assertEqual(bundled([(0, 0)]), (2, 2, 0, 0))
        self.assertEqual(bundled([(0, 0), (1, 1, 98), (2, 0)]), (2, 7, 0, 0, 1, 1, 98, 2, 0))
        self.assertEqual(bundled([(0, 0)] * 64), (2, 128, 1) + (0, 0) * 64)
        bundle = (2, 7, 0, 0, 1, 1, 98, 2, 0)
        self.assertEqual(many_in(bundle), 3)
        self.assertEqual([nth(bundle, k) for k in range(3)], [(0, 0), (1, 1, 98), (2, 0)])
        self.assertEqual(cut(bundle, 1, 3), (2, 5, 1, 1, 98, 2, 0))
        self.assertEqual(cut(bundle, 0, 1), (2, 2, 0, 0))
        self.assertEqual(cut(bundle, 3, 3), (2, 0))
        self.assertEqual(joined(bundle, (2, 2, 0, 2)), (2, 9, 0, 0, 1, 1, 98, 2, 0, 0, 2))
        self.assertEqual(joined((2, 2, 0, 2), bundle), (2, 9, 0, 2, 0, 0, 1, 1, 98, 2, 0))

    def test_the_file_of_a_row(self):
        for files in some_lists():
            row = ("row", tuple(unpacked(file) for file in files))
            self.assertEqual(bundled(files), packed(row))

    def test_many_and_each(self):
        for files in some_lists() + strange_lists():
            bundle = bundled(files)
            self.assertIsInstance(bundle, tuple)
            self.assertEqual(many_in(bundle), len(files))
            for k, file in enumerate(files):
                self.assertEqual(nth(bundle, k), file)
                self.assertIsInstance(nth(bundle, k), tuple)

    def test_cut(self):
        for files in some_lists() + strange_lists():
            bundle = bundled(files)
            bounds = sorted({0, 1, 2, len(files) // 2, len(files) - 1, len(files)} & set(range(len(files) + 1)))
            for first in bounds:
                for end in bounds:
                    if first <= end:
                        self.assertEqual(cut(bundle, first, end), bundled(files[first:end]))
                        self.assertEqual(many_in(cut(bundle, first, end)), end - first)

    def test_joined(self):
        lists = some_lists() + strange_lists()
        for one, other in zip(lists, lists[3:] + lists[:3]):
            self.assertEqual(joined(bundled(one), bundled(other)), bundled(one + other))
            self.assertEqual(joined(bundled(one), bundled([])), bundled(one))
            self.assertEqual(joined(bundled([]), bundled(one)), bundled(one))
            self.assertEqual(joined(bundled(one), bundled(one)), bundled(one + one))

    def test_cut_and_joined_again(self):
        for files in some_lists() + strange_lists():
            bundle = bundled(files)
            for at in {0, len(files) // 3, len(files)}:
                self.assertEqual(joined(cut(bundle, 0, at), cut(bundle, at, len(files))), bundle)

    def test_bundles_in_bundles(self):
        inner = [bundled(files) for files in strange_lists()[:20]]
        outer = bundled(inner)
        self.assertEqual(many_in(outer), 20)
        for k, bundle in enumerate(inner):
            self.assertEqual(nth(outer, k), bundle)
            self.assertEqual(many_in(nth(outer, k)), len(strange_lists()[k]))

    def test_what_was_told_is_handed_in_again(self):
        bundle = bundled([packed(("text", "x" * 200))] * 100)
        for turn in range(3):
            bundle = joined(bundle, bundle)
        self.assertEqual(many_in(bundle), 800)
        self.assertEqual(nth(bundle, 799), packed(("text", "x" * 200)))
        self.assertEqual(many_in(cut(bundle, 5, 795)), 790)


class Refused(unittest.TestCase):
    def refused(self, call, *things):
        with self.subTest(call=call.__name__, things=things):
            with self.assertRaises(NoPlace) as caught:
                call(*things)
            self.assertEqual(caught.exception.step, 0)

    def test_a_number_of_no_file(self):
        for files in [[], [(0, 0)], [(0, 0), (2, 0)], [(1, 2, 97, 98)] * 5] + strange_lists()[:5]:
            many = len(files)
            for k in [-1, -2, -many, -many - 1, many, many + 1, 10 ** 18, -10 ** 18, 10 ** 39]:
                if not 0 <= k < many:
                    self.refused(nth, bundled(files), k)

    def test_wrong_cuts(self):
        for many in [0, 1, 2, 5]:
            bundle = bundled([(0, 2 * k) for k in range(many)])
            for first in [-10 ** 18, -many - 1, -many, -2, -1, 0, 1, 2, 3, 5, 6, 10 ** 18]:
                for end in [-10 ** 18, -many - 1, -many, -2, -1, 0, 1, 2, 3, 5, 6, 10 ** 18]:
                    if not 0 <= first <= end <= many:
                        self.refused(cut, bundle, first, end)

    def test_each_alone_and_two_at_once(self):
        bundle = bundled([(0, 0), (2, 0), (1, 0)])
        self.refused(cut, bundle, -1, 2)
        self.refused(cut, bundle, 0, 4)
        self.refused(cut, bundle, 2, 1)
        self.refused(cut, bundle, -1, 4)
        self.refused(cut, bundle, 5, 4)
        self.refused(cut, bundle, -1, -2)
        self.refused(cut, bundle, 4, 4)
        self.refused(cut, bundle, -1, -1)


class HandedIn(unittest.TestCase):
    def test_stays(self):
        for files in [[], [(0, 0), (2, 0), (0, 0)], [file for item, file in PACKED]]:
            before = copy.deepcopy(files)
            bundle = bundled(files)
            self.assertEqual(files, before)
            same = tuple(bundle)
            many_in(bundle)
            joined(bundle, bundle)
            cut(bundle, 0, len(files))
            for k in range(len(files)):
                nth(bundle, k)
            self.assertEqual(bundle, same)

    def test_what_is_done_to_it_later_changes_nothing(self):
        files = [(0, 0), (2, 0)]
        bundle = bundled(files)
        files.append((1, 0))
        files[0] = (3, 0)
        self.assertEqual(bundle, (2, 4, 0, 0, 2, 0))
        self.assertEqual(many_in(bundle), 2)
        self.assertEqual(nth(bundle, 0), (0, 0))


if __name__ == "__main__":
    unittest.main()
