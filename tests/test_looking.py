"""Points 5, 13 and 14: looking within a file."""

import random
import unittest

from makes.errors import BadByte, NoPlace
from makes.looking import item_at, span_at
from makes.packing import packed, unpacked
from tests.samples import PACKED, ZERO, file_plainly, long_plainly, parts_plainly, random_item

DEEP = ("rec", (
    (1, ("text", "first")),
    (2, ("row", (ZERO, ("text", ""), ("row", ()), ("row", (("whole", 64), ("whole", -1)))))),
    (130, ("map", (("a", ZERO), ("ab", ("arm", 7, ("arm", 300, ("text", "in arms")))), ("b", ("rec", ()))))),
    (999, ("arm", 999, ("map", ())))))


def places(item, at=0, path=()):
    """All (path, begin, end, item) in an item's file that begins at a place."""
    told = [(path, at, at + len(file_plainly(item)), item)]
    begin = at + 1
    if item[0] in ("row", "map", "rec"):
        room = sum(len(ahead) + len(file_plainly(inner)) for step, ahead, inner in parts_plainly(item))
        begin += len(long_plainly(room))
    for step, ahead, inner in parts_plainly(item):
        begin += len(ahead)
        told.extend(places(inner, begin, path + (step,)))
        begin += len(file_plainly(inner))
    return told


def some_items():
    rng = random.Random(21)
    return [item for item, file in PACKED if len(file) < 60] + [DEEP] + [random_item(rng, 5) for turn in range(150)]


def outcome(file, path):
    try:
        return ("item", item_at(file, path))
    except BadByte as refused:
        return ("at", refused.at)


def outcome_of_bytes(file, begin, end):
    try:
        return ("item", unpacked(file[begin:end]))
    except BadByte as refused:
        return ("at", begin + refused.at)


def garbled(item, path, rng, at_end=True):
    """The item's file, with any bytes in what stands beside the path, and, where told, at the path's end."""
    head = ["whole", "text", "row", "map", "rec", "arm"].index(item[0])
    if path is None or (path == () and at_end):
        if item[0] == "arm":
            return (head,) + long_plainly(item[1]) + garbled(item[2], path, rng)
        if item[0] == "whole":
            return file_plainly(item)
        many = len(item[1]) if item[0] == "text" else len(garbled_room(item, rng))
        return (head,) + long_plainly(many) + tuple(rng.randrange(256) for place in range(many))
    if path == ():
        return file_plainly(item)
    room = ()
    for step, ahead, inner in parts_plainly(item):
        room += ahead + garbled(inner, path[1:] if step == path[0] else None, rng, at_end)
    return (head,) + (() if item[0] == "arm" else long_plainly(len(room))) + room


def garbled_room(item, rng):
    return (0,) * rng.choice([0, 1, 2, 5, 127, 128, sum(len(file_plainly(part[2])) for part in parts_plainly(item))])


class Found(unittest.TestCase):
    def test_by_hand(self):
        file = (2, 7, 0, 0, 1, 1, 98, 2, 0)
        self.assertEqual(span_at(file, ()), (0, 9))
        self.assertEqual(span_at(file, (("at", 0),)), (2, 4))
        self.assertEqual(span_at(file, (("at", 1),)), (4, 7))
        self.assertEqual(span_at(file, (("at", 2),)), (7, 9))
        file = (4, 11, 127, 0, 0, 128, 1, 4, 0, 129, 1, 2, 0)
        self.assertEqual(span_at(file, (("field", 127),)), (3, 5))
        self.assertEqual(span_at(file, (("field", 128),)), (7, 9))
        self.assertEqual(span_at(file, (("field", 129),)), (11, 13))
        file = (3, 9, 1, 97, 0, 0, 2, 97, 98, 1, 0)
        self.assertEqual(span_at(file, (("key", "a"),)), (4, 6))
        self.assertEqual(span_at(file, (("key", "ab"),)), (9, 11))
        file = (5, 128, 1, 5, 2, 2, 2, 0, 0)
        self.assertEqual(span_at(file, (("arm", 128),)), (3, 9))
        self.assertEqual(span_at(file, (("arm", 128), ("arm", 2))), (5, 9))
        self.assertEqual(span_at(file, (("arm", 128), ("arm", 2), ("at", 0))), (7, 9))
        file = (2, 12, 3, 10, 1, 107, 4, 6, 3, 5, 4, 1, 1, 118)
        path = (("at", 0), ("key", "k"), ("field", 3), ("arm", 4))
        spans = [(0, 14), (2, 14), (6, 14), (9, 14), (11, 14)]
        for many, span in enumerate(spans):
            self.assertEqual(span_at(file, path[:many]), span)
        self.assertEqual(item_at(file, path), ("text", "v"))

    def test_every_path(self):
        for item in some_items():
            file = packed(item)
            for path, begin, end, inner in places(item):
                with self.subTest(item=item, path=path):
                    span = span_at(file, path)
                    self.assertEqual(span, (begin, end))
                    self.assertIsInstance(span, tuple)
                    self.assertEqual(item_at(file, path), inner)
                    self.assertEqual(packed(inner), file[begin:end])

    def test_a_path_of_forty_steps(self):
        item = ("text", "deep")
        path = ()
        for turn in range(10):
            item = ("row", (ZERO, ("map", (("k", ("rec", ((5, ("arm", 9, item)), (6, ("text", "beside"))))),))))
            path = (("at", 1), ("key", "k"), ("field", 5), ("arm", 9)) + path
        file = packed(item)
        self.assertEqual(item_at(file, path), ("text", "deep"))
        span = span_at(file, path)
        self.assertEqual(file[span[0]:span[1]], packed(("text", "deep")))

    def test_in_a_great_store(self):
        item = ("row", tuple(("rec", ((1, ("whole", k)), (2, ("text", "t" * (k % 150))))) for k in range(400)))
        file = packed(item)
        for k in [0, 1, 57, 128, 398, 399]:
            self.assertEqual(item_at(file, (("at", k),)), item[1][k])
            self.assertEqual(item_at(file, (("at", k), ("field", 1))), ("whole", k))
            self.assertEqual(item_at(file, (("at", k), ("field", 2))), ("text", "t" * (k % 150)))


class LeadsNowhere(unittest.TestCase):
    def refused(self, item, path, step):
        file = packed(item)
        for look in [span_at, item_at]:
            with self.subTest(item=item, path=path, look=look.__name__):
                with self.assertRaises(NoPlace) as caught:
                    look(file, path)
                self.assertEqual(caught.exception.step, step)

    def test_another_sort_of_item(self):
        steps = {"row": ("at", 0), "map": ("key", "a"), "rec": ("field", 1), "arm": ("arm", 1)}
        items = [ZERO, ("text", "a"), ("row", (ZERO,)), ("map", (("a", ZERO),)), ("rec", ((1, ZERO),)), ("arm", 1, ZERO)]
        for item in items:
            for sort, step in steps.items():
                if sort != item[0]:
                    self.refused(item, (step,), 0)
                    self.refused(("row", (ZERO, item)), (("at", 1), step), 1)
                    self.refused(item, (step, step), 0)
                else:
                    self.refused(item, (step, step), 1)

    def test_numbers_of_a_row(self):
        for many in [0, 1, 2, 100]:
            for k in [-1, -2, -many, -many - 1, many, many + 1, 10 ** 6, 10 ** 18, 10 ** 39, -10 ** 18, -10 ** 39]:
                if not 0 <= k < many:
                    self.refused(("row", (ZERO,) * many), (("at", k),), 0)

    def test_none_of_this_name_or_number(self):
        for name in ["a", "c", "bb", "bcdefgh", "ab", "z"]:
            self.refused(("map", (("b", ZERO), ("bc", ZERO))), (("key", name),), 0)
        self.refused(("map", ()), (("key", "a"),), 0)
        for number in [1, 3, 127, 129, 257, 999]:
            self.refused(("rec", ((2, ZERO), (128, ZERO), (256, ZERO))), (("field", number),), 0)
        self.refused(("rec", ()), (("field", 1),), 0)
        for number in [1, 127, 129, 256, 999]:
            self.refused(("arm", 128, ZERO), (("arm", number),), 0)

    def test_behind_right_steps_and_ahead_of_others(self):
        self.refused(DEEP, (("field", 2), ("at", 3), ("at", 2)), 2)
        self.refused(DEEP, (("field", 2), ("at", 4), ("at", 0)), 1)
        self.refused(DEEP, (("field", 2), ("at", -1), ("at", 0)), 1)
        self.refused(DEEP, (("field", 3), ("at", 3), ("at", 0)), 0)
        self.refused(DEEP, (("field", 3), ("at", 9), ("key", "no")), 0)
        self.refused(DEEP, (("field", 130), ("key", "ab"), ("arm", 7), ("arm", 301)), 3)
        self.refused(DEEP, (("field", 130), ("key", "ab"), ("arm", 300), ("arm", 7)), 2)
        self.refused(DEEP, (("field", 130), ("key", "ac"), ("arm", 7), ("arm", 300)), 1)
        self.refused(DEEP, (("field", 999), ("arm", 999), ("key", "a")), 2)
        self.refused(DEEP, (("at", 0), ("at", 0)), 0)

    def test_every_path_with_a_step_more(self):
        more = [("at", -1), ("at", 99), ("key", "none"), ("field", 555), ("arm", 555)]
        for item in some_items()[:60]:
            for path, begin, end, inner in places(item):
                for step in more:
                    self.refused(item, path + (step,), len(path))
                    self.refused(item, path + (step, ("at", 0), ("arm", 1)), len(path))


class NothingBesideIsLookedAt(unittest.TestCase):
    def test_by_hand(self):
        # A row of a text and a map with any bytes in them, and a whole behind them.
        file = (2, 12, 1, 3, 0, 37, 255, 3, 2, 200, 200, 0, 128, 1)
        self.assertEqual(span_at(file, (("at", 0),)), (2, 7))
        self.assertEqual(span_at(file, (("at", 1),)), (7, 11))
        self.assertEqual(span_at(file, (("at", 2),)), (11, 14))
        self.assertEqual(item_at(file, (("at", 2),)), ("whole", 64))
        self.assertEqual(outcome(file, (("at", 0),)), ("at", 4))
        self.assertEqual(outcome(file, (("at", 1),)), ("at", 9))
        self.assertEqual(outcome(file, ()), ("at", 4))

    def test_a_room_that_ends_too_soon(self):
        # What is at the path's end has its own bytes as its room, whatever stands behind them.
        file = (2, 8, 2, 1, 0, 0, 0, 1, 1, 97)
        self.assertEqual(span_at(file, (("at", 0),)), (2, 5))
        self.assertEqual(outcome(file, (("at", 0),)), ("at", 5))
        self.assertEqual(item_at(file, (("at", 1),)), ZERO)
        self.assertEqual(item_at(file, (("at", 2),)), ("text", "a"))
        file = (2, 9, 4, 5, 3, 0, 0, 1, 1, 0, 0)
        self.assertEqual(span_at(file, (("at", 0),)), (2, 9))
        self.assertEqual(outcome(file, (("at", 0),)), ("at", 7))

    def test_arms_beside_the_path(self):
        beside = (5, 1) * 39 + (1, 2, 0, 255)
        file = (2,) + long_plainly(2 * len(beside) + 2) + beside + (0, 6) + beside
        begin = 1 + len(long_plainly(2 * len(beside) + 2))
        self.assertEqual(span_at(file, (("at", 0),)), (begin, begin + len(beside)))
        self.assertEqual(span_at(file, (("at", 1),)), (begin + len(beside), begin + len(beside) + 2))
        self.assertEqual(span_at(file, (("at", 2),)), (begin + len(beside) + 2, len(file)))
        self.assertEqual(item_at(file, (("at", 1),)), ("whole", 3))

    def test_how_deep_is_told_of_the_place_by_itself(self):
        # Forty arms around, and ninety rows in the place: no file as a whole, but the place is one.
        inner = ("text", "x")
        for turn in range(90):
            inner = ("row", (inner,))
        file = (5, 2) * 40 + file_plainly(inner)
        self.assertEqual(item_at(file, (("arm", 2),) * 40), inner)
        self.assertEqual(span_at(file, (("arm", 2),) * 40), (80, len(file)))
        with self.assertRaises(BadByte):
            item_at(file, ())

    def test_any_bytes_beside_the_path(self):
        rng = random.Random(22)
        for item in some_items():
            for path, begin, end, inner in places(item):
                file = garbled(item, path, rng, at_end=False)
                with self.subTest(file=file, path=path):
                    span = span_at(file, path)
                    self.assertEqual(file[span[0]:span[1]], packed(inner))
                    self.assertEqual(item_at(file, path), inner)

    def test_the_same_place(self):
        rng = random.Random(23)
        for item in some_items():
            for path, begin, end, inner in places(item):
                for turn in range(3):
                    file = same_size_garbled(packed(item), item, path, rng)
                    with self.subTest(file=file, path=path):
                        self.assertEqual(span_at(file, path), (begin, end))
                        self.assertEqual(outcome(file, path), outcome_of_bytes(file, begin, end))

    def test_any_bytes_at_its_end(self):
        rng = random.Random(24)
        for item in some_items():
            for path, begin, end, inner in places(item):
                file = garbled(item, path, rng)
                with self.subTest(file=file, path=path):
                    span = span_at(file, path)
                    self.assertEqual(outcome(file, path), outcome_of_bytes(file, span[0], span[1]))

    def test_leads_nowhere_all_the_same(self):
        rng = random.Random(25)
        for item in some_items():
            for path, begin, end, inner in places(item):
                # Of an item of another sort nothing but the head is looked at.
                wrong = path + (("arm", 1) if inner[0] == "row" else ("at", 0),)
                file = garbled(item, path, rng)
                with self.assertRaises(NoPlace) as caught:
                    span_at(file, wrong)
                self.assertEqual(caught.exception.step, len(path))


def same_size_garbled(file, item, path, rng):
    """The file with any bytes in the codes and rooms beside the path and at its end, sizes as they are."""
    codes = list(file)
    for other, begin, end, inner in places(item):
        on_the_path = other != path and path[:len(other)] == other
        if on_the_path or inner[0] in ("whole", "arm"):
            continue
        if any(step_in_room(other, path, many, item) for many in range(len(other))):
            continue
        many = len(inner[1]) if inner[0] == "text" else room_size(inner)
        for place in range(end - many, end):
            codes[place] = rng.randrange(256)
    return tuple(codes)


def step_in_room(other, path, many, item):
    """Whether what `other` leads to stands in a room that was garbled already: of a part beside, or of the place."""
    ahead = other[:many]
    at_or_beside = ahead == path or path[:many] != ahead
    return at_or_beside and item_of(item, ahead)[0] in ("row", "map", "rec")


def item_of(item, path):
    for step in path:
        item = [inner for other, ahead, inner in parts_plainly(item) if other == step][0]
    return item


def room_size(item):
    return sum(len(ahead) + len(file_plainly(inner)) for step, ahead, inner in parts_plainly(item))


if __name__ == "__main__":
    unittest.main()
