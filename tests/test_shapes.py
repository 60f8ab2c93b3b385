"""Points 2, 3 and 25: shapes."""

import unittest

from makes.shapes import is_shape
from tests.samples import DEEP_THINGS, WRONG_THINGS

NO_WHOLES = [None, True, False, "", "1", (), (1,), [], [1], {}, ("whole", 1)]
NO_NAMES = ["", "A", "a1", "a b", " a", "abcdefghi", None, 1, True, (), ("a",), ["a"], {}, {"a": 1}]
NO_NUMBERS = [0, -1, 1000, 10 ** 18, -10 ** 18, True, False, None, "", "1", (), (1,), [], [1], {}]
PLAIN_THINGS = [None, True, False, 0, -5, 10 ** 39, "", "a", (), ("a",), [], [1, [2]], {}, {"a": [()]}, ("whole", 1)]


def fields(*numbers):
    return tuple((number, "n" + "abcdefghijkl"[place], "of", ()) for place, number in enumerate(numbers))


def arms(*numbers):
    return tuple((number, "n" + "abcdefghijkl"[place], "of") for place, number in enumerate(numbers))


class Shapes(unittest.TestCase):
    def told(self, thing, right):
        with self.subTest(thing=thing):
            self.assertIs(is_shape(thing), right)

    def test_whole(self):
        most = 10 ** 18
        for low, high in [(0, 0), (0, 1), (-1, 0), (-5, 5), (-most, most), (most, most), (-most, -most), (-most, 7)]:
            self.told(("whole", low, high), True)
        for low, high in [(1, 0), (0, -1), (5, -5), (most, -most), (most, most - 1), (-most - 1, 0), (0, most + 1),
                          (-most - 1, most + 1), (most + 1, most + 1), (-most - 1, -most - 1), (-10 ** 39, 10 ** 39)]:
            self.told(("whole", low, high), False)
        for wrong in NO_WHOLES:
            self.told(("whole", wrong, 5), False)
            self.told(("whole", 0, wrong), False)
            self.told(("whole", wrong, wrong), False)
        for thing in [("whole",), ("whole", 0), ("whole", 0, 1, 2), ["whole", 0, 1], ("whole", (0, 1))]:
            self.told(thing, False)

    def test_truth(self):
        self.told(("truth",), True)
        for thing in ["truth", ["truth"], ("truth", True), ("truth", ()), ("truth", 0, 1), ("Truth",), ("truth", None)]:
            self.told(thing, False)

    def test_text(self):
        for most in [0, 1, 100, 199, 200]:
            self.told(("text", most), True)
        for most in [-1, 201, 10 ** 18] + NO_WHOLES:
            self.told(("text", most), False)
        for thing in [("text",), ("text", 1, 2), ["text", 1], ("text", "a", 3)]:
            self.told(thing, False)

    def test_row_and_map(self):
        for sort in ["row", "map"]:
            for most in [0, 1, 19, 20]:
                self.told((sort, "a", most), True)
                self.told((sort, "abcdefgh", most), True)
            for most in [-1, 21, 10 ** 18] + NO_WHOLES:
                self.told((sort, "a", most), False)
            for name in NO_NAMES:
                self.told((sort, name, 3), False)
            for thing in [(sort,), (sort, "a"), (sort, 3), (sort, "a", 3, 3), [sort, "a", 3], (sort, 3, "a")]:
                self.told(thing, False)

    def test_record(self):
        self.told(("record", (), ()), True)
        self.told(("record", fields(1), ()), True)
        self.told(("record", fields(1, 2, 3, 4, 5, 6, 7, 8), ()), True)
        self.told(("record", fields(1, 2, 3, 4, 5, 6, 7, 8), (9, 10, 11, 12, 13, 14, 15, 999)), True)
        self.told(("record", (), (1, 2, 3, 4, 5, 6, 7, 8)), True)
        self.told(("record", fields(1, 500, 999), (2, 998)), True)
        self.told(("record", ((7, "x", "x", ()),), (3,)), True)
        self.told(("record", ((7, "x", "of", ()), (8, "y", "of", (0,))), ()), True)
        for thing in [("record",), ("record", ()), ("record", (), (), ()), ("record", (), (), True), ["record", (), ()],
                      ("record", fields(1)), ("record", (1, "a", "of", ()), ())]:
            self.told(thing, False)

    def test_choice(self):
        for opened in [True, False]:
            self.told(("choice", (), (), opened), True)
            self.told(("choice", arms(1), (), opened), True)
            self.told(("choice", arms(1, 2, 3, 4, 5, 6, 7, 8), (), opened), True)
            self.told(("choice", arms(1, 2, 3, 4, 5, 6, 7, 999), (9, 10, 11, 12, 13, 14, 15, 16), opened), True)
            self.told(("choice", ((7, "x", "x"),), (3,), opened), True)
        for opened in [None, 0, 1, "", "open", "True", (), (True,), [], {}]:
            self.told(("choice", (), (), opened), False)
            self.told(("choice", arms(1), (2,), opened), False)
        for thing in [("choice",), ("choice", ()), ("choice", (), ()), ("choice", (), True), ("choice", (), (), True, ()),
                      ["choice", (), (), True], ("choice", (1, "a", "of"), (), True)]:
            self.told(thing, False)

    def both(self, members, struck, right):
        """Of a record's fields and of a choice's arms; members are tuples (number, name, of)."""
        self.told(("choice", members, struck, True), right)
        self.told(("choice", members, struck, False), right)
        given = tuple(member + ((),) for member in members)
        self.told(("record", given, struck), right)
        self.told(("record", tuple(member + ((5,),) for member in members), struck), right)

    def test_more_than_eight(self):
        self.both(arms(1, 2, 3, 4, 5, 6, 7, 8, 9), (), False)
        self.both((), (1, 2, 3, 4, 5, 6, 7, 8, 9), False)
        self.both(arms(10), (1, 2, 3, 4, 5, 6, 7, 8, 9), False)

    def test_numbers_that_do_not_rise(self):
        for numbers in [(1, 1), (2, 1), (1, 3, 2), (1, 2, 2), (999, 1), (10, 9)]:
            self.both(arms(*numbers), (), False)
            self.both((), numbers, False)
        for numbers in [(1, 2), (9, 10), (2, 10, 100, 999)]:
            self.both(arms(*numbers), (), True)
            self.both((), numbers, True)

    def test_names_that_are_alike(self):
        self.both(((1, "a", "of"), (2, "a", "of")), (), False)
        self.both(((1, "a", "of"), (2, "b", "of"), (3, "a", "off")), (), False)
        self.both(((1, "a", "of"), (2, "b", "of"), (3, "c", "of")), (), True)
        self.both(((1, "b", "of"), (2, "a", "of")), (), True)
        self.both(((1, "of", "of"), (2, "a", "of")), (), True)

    def test_a_struck_number_that_one_has(self):
        self.both(arms(1), (1,), False)
        self.both(arms(1, 5, 9), (2, 5), False)
        self.both(arms(1, 5, 9), (9, 10), False)
        self.both(arms(1, 5, 9), (2, 6, 10), True)

    def test_bounds_of_numbers(self):
        for number in [1, 2, 998, 999]:
            self.both(((number, "a", "of"),), (), True)
            self.both((), (number,), True)
        for number in NO_NUMBERS:
            self.both(((number, "a", "of"),), (), False)
            self.both((), (number,), False)
            self.both(arms(2), (number,), False)

    def test_wrong_names(self):
        for name in NO_NAMES:
            self.both(((1, name, "of"),), (), False)
            self.both(((1, "a", name),), (), False)
            self.both(((1, "a", "of"), (2, "b", name)), (), False)
            self.both(((1, "a", "of"), (2, name, "of")), (), False)
        for name in ["a", "abcdefgh"]:
            self.both(((1, name, name),), (), True)

    def test_defaults(self):
        self.told(("record", ((1, "a", "of", ()),), ()), True)
        for thing in PLAIN_THINGS:
            self.told(("record", ((1, "a", "of", (thing,)),), ()), True)
            self.told(("record", ((1, "a", "of", (thing, thing)),), ()), False)
            self.told(("record", ((1, "a", "of", [thing]),), ()), False)
        for default in [None, True, False, 0, 1, "", "a", [], {}, {0: 0}, (1, 2), (1, 2, 3)]:
            self.told(("record", ((1, "a", "of", default),), ()), False)

    def test_how_many_things_fields_and_arms_have(self):
        for member in [(), (1,), (1, "a"), (1, "a", "of"), (1, "a", "of", (), ()), [1, "a", "of", ()], None, 1, "a", {}]:
            self.told(("record", (member,), ()), False)
            self.told(("record", (member, (999, "z", "of", ())), ()), False)
        for member in [(), (1,), (1, "a"), (1, "a", "of", ()), [1, "a", "of"], None, 1, "a", {}, (1, "a", "of", "of")]:
            self.told(("choice", (member,), (), True), False)
            self.told(("choice", ((999, "z", "of"), member), (), True), False)

    def test_lists_for_tuples(self):
        self.told(("record", [], ()), False)
        self.told(("record", (), []), False)
        self.told(("record", list(fields(1)), ()), False)
        self.told(("record", fields(1), [2]), False)
        self.told(("choice", [], (), True), False)
        self.told(("choice", (), [], True), False)
        self.told(("choice", list(arms(1)), (), True), False)
        for wrong in [None, True, 0, 1, "", "ab", {}, {1: 2}, [()]]:
            self.told(("record", wrong, ()), False)
            self.told(("record", (), wrong), False)
            self.told(("choice", wrong, (), True), False)
            self.told(("choice", (), wrong, True), False)

    def test_no_sort_of_shape(self):
        for sort in ["", "Whole", "rec", "arm", "wholes", "bool", None, True, 0, (), [], {}, ("whole",)]:
            for thing in [(sort,), (sort, 0), (sort, 0, 1), (sort, (), ()), (sort, (), (), True), (sort, "a", 3)]:
                self.told(thing, False)

    def test_wrong_things(self):
        for thing in WRONG_THINGS + DEEP_THINGS + ["whole", "truth", "record", 5]:
            self.told(thing, False)


if __name__ == "__main__":
    unittest.main()
