"""Points 2, 13, 30 and 31: items read by a form, and written again."""

import copy
import random
import unittest

from makes.errors import BadItem, NoPlace
from makes.items import is_item
from makes.looking import item_at
from makes.packing import packed
from makes.reading import read
from makes.values import is_value
from makes.writing import written
from tests.drawing import great_makes, small_makes, values_of
from tests.samples import FORMS, MAKE, ZERO, in_all, in_arms, in_rows, random_item
from tests.values_plainly import faults_of, same, value_plainly

MOST = 10 ** 18
YES = ("whole", 1)
TEXT = ("text", "")
# One of each sort.
ITEMS = [ZERO, TEXT, ("row", ()), ("map", ()), ("rec", ()), ("arm", 1, ZERO)]


def outcome(make, name, item):
    try:
        return ("value", read(make, name, item))
    except BadItem as refused:
        return ("path", refused.path)


def outcome_plainly(make, name, item):
    faults = faults_of(make, name, item)
    return ("path", faults[0]) if faults else ("value", value_plainly(make, name, item))


class Held(unittest.TestCase):
    def told(self, name, item, value, make=MAKE):
        with self.subTest(name=name, item=item):
            self.assertTrue(is_item(item), item)
            told = outcome(make, name, item)
            self.assertTrue(same(told, ("value", value)), told)

    def refused(self, name, item, path, make=MAKE):
        with self.subTest(name=name, item=item):
            self.assertTrue(is_item(item), item)
            told = outcome(make, name, item)
            self.assertTrue(same(told, ("path", path)), told)


class Read(Held):
    def test_sorts(self):
        rights = {"n": 0, "t": 0, "s": 1, "r": 2, "m": 3, "rec": 4, "shut": 5, "wide": 5}
        for name, right in rights.items():
            for place, item in enumerate(ITEMS):
                if place != right:
                    self.refused(name, item, ())

    def test_wholes(self):
        for n in [-5, -4, 0, 1, 69, 70]:
            self.told("n", ("whole", n), n)
        for n in [-6, 71, MOST, -MOST]:
            self.refused("n", ("whole", n), ())
        make = ("n", {"n": ("whole", 3, 3), "all": ("whole", -MOST, MOST)})
        self.told("n", ("whole", 3), 3, make)
        self.refused("n", ("whole", 2), (), make)
        self.refused("n", ("whole", 4), (), make)
        self.told("all", ("whole", MOST), MOST, make)
        self.told("all", ("whole", -MOST), -MOST, make)

    def test_truths(self):
        self.told("t", ZERO, False)
        self.told("t", YES, True)
        for n in [2, -1, MOST, -MOST]:
            self.refused("t", ("whole", n), ())

    def test_texts(self):
        for text in ["", " ", "abc", "abcd"]:
            self.told("s", ("text", text), text)
        for text in ["abcde", "     ", "a" * 200]:
            self.refused("s", ("text", text), ())
        make = ("a", {"a": ("text", 0), "b": ("text", 200)})
        self.told("a", TEXT, "", make)
        self.refused("a", ("text", " "), (), make)
        self.told("b", ("text", "a" * 200), "a" * 200, make)

    def test_rows(self):
        self.told("r", ("row", ()), ())
        self.told("r", ("row", (ZERO, YES, ("whole", 70))), (0, 1, 70))
        self.refused("r", ("row", (ZERO,) * 4), ())
        self.refused("r", ("row", (TEXT,) * 4), ())
        for place in range(3):
            for wrong in [TEXT, ("whole", 71), ("whole", -6), ("row", ()), ("map", ()), ("rec", ()), ("arm", 1, ZERO)]:
                self.refused("r", ("row", (ZERO,) * place + (wrong,) + (ZERO,) * (2 - place)), (("at", place),))
                self.refused("r", ("row", (ZERO,) * place + (wrong,) * (3 - place)), (("at", place),))

    def test_maps(self):
        self.told("m", ("map", ()), ())
        self.told("m", ("map", (("a", ZERO), ("b", YES))), (("a", False), ("b", True)))
        self.refused("m", ("map", (("a", ZERO), ("b", ZERO), ("c", ZERO))), ())
        self.refused("m", ("map", (("a", TEXT), ("b", ZERO), ("c", ZERO))), ())
        self.refused("m", ("map", (("a", TEXT), ("b", TEXT))), (("key", "a"),))
        self.refused("m", ("map", (("a", ZERO), ("bbbbbbbb", ("whole", 2)))), (("key", "bbbbbbbb"),))

    def test_most_0(self):
        make = ("r", {"r": ("row", "t", 0), "m": ("map", "t", 0), "t": ("truth",)})
        self.told("r", ("row", ()), (), make)
        self.told("m", ("map", ()), (), make)
        self.refused("r", ("row", (ZERO,)), (), make)
        self.refused("m", ("map", (("a", ZERO),)), (), make)

    def test_fields(self):
        self.told("rec", ("rec", ((3, ZERO), (5, YES), (9, ("row", (ZERO,))))), ((0, True, (0,)), ()))
        self.told("rec", ("rec", ((5, YES),)), ((7, True, ()), ()))
        self.told("rec", ("rec", ((5, ZERO), (9, ("row", ())))), ((7, False, ()), ()))
        self.told("rec", ("rec", ((3, ("whole", 7)), (5, ZERO))), ((7, False, ()), ()))

    def test_others(self):
        others = ((1, TEXT), (4, ("row", (TEXT,))), (6, ZERO), (999, in_rows(ZERO, 90)))
        self.told("rec", ("rec", others[:2] + ((5, YES),) + others[2:]), ((7, True, ()), others))
        self.told("rec", ("rec", others[:1] + ((3, ZERO),) + others[1:2] + ((5, YES),) + others[2:3]
                          + ((9, ("row", ())),) + others[3:]), ((0, True, ()), others))
        make = ("a", {"a": ("record", (), ())})
        self.told("a", ("rec", ()), ((), ()), make)
        self.told("a", ("rec", others), ((), others), make)

    def test_each_default(self):
        forms = {"n": ("whole", 0, 9), "t": ("truth",), "s": ("text", 2), "r": ("row", "n", 1), "m": ("map", "n", 1)}
        defaults = {"n": 1, "t": True, "s": "ab", "r": (), "m": ()}
        items = {"n": ZERO, "t": ZERO, "s": TEXT, "r": ("row", (ZERO,)), "m": ("map", (("k", ZERO),))}
        values = {"n": 0, "t": False, "s": "", "r": (0,), "m": (("k", 0),)}
        fields = tuple((number, "n" + of, of, (defaults[of],)) for number, of in enumerate(sorted(forms), start=1))
        make = ("a", dict(forms, a=("record", fields, ())))
        self.told("a", ("rec", ()), (tuple(defaults[of] for of in sorted(forms)), ()), make)
        for number, of in enumerate(sorted(forms), start=1):
            known = tuple(values[of] if name == of else defaults[name] for name in sorted(forms))
            self.told("a", ("rec", ((number, items[of]),)), (known, ()), make)

    def test_fields_that_lack(self):
        self.refused("rec", ("rec", ()), (("field", 5),))
        self.refused("rec", ("rec", ((3, ZERO), (9, ("row", ())))), (("field", 5),))
        self.refused("rec", ("rec", ((4, ZERO), (6, ZERO))), (("field", 5),))

    def test_fields_by_their_numbers(self):
        wrong = ("text", "abcde")
        self.refused("rec", ("rec", ((3, wrong),)), (("field", 3),))
        self.refused("rec", ("rec", ((3, wrong), (5, wrong), (9, wrong))), (("field", 3),))
        self.refused("rec", ("rec", ((3, ZERO), (5, wrong), (9, wrong))), (("field", 5),))
        self.refused("rec", ("rec", ((3, ZERO), (9, wrong))), (("field", 5),))
        self.refused("rec", ("rec", ((5, ZERO), (9, wrong))), (("field", 9),))
        self.refused("rec", ("rec", ((5, ZERO), (9, ("row", (ZERO, wrong))))), (("field", 9), ("at", 1)))
        self.refused("rec", ("rec", ((5, ("whole", 2)), (9, wrong))), (("field", 5),))

    def test_a_lacking_field_behind_one_with_something_wrong_deep_within(self):
        make = ("a", {"a": ("record", ((1, "x", "r", ()), (2, "y", "t", ()), (3, "z", "r", ())), ()), "r": ("row", "r", 9),
                      "t": ("truth",)})
        deep = ("row", (("row", ()), ("row", (("row", ()), TEXT))))
        way = (("field", 1), ("at", 1), ("at", 1))
        self.refused("a", ("rec", ((1, deep), (3, deep))), way, make)
        self.refused("a", ("rec", ((1, deep), (2, TEXT), (3, TEXT))), way, make)
        self.refused("a", ("rec", ((1, ("row", ())), (3, deep))), (("field", 2),), make)
        self.refused("a", ("rec", ((1, ("row", ())), (2, YES), (3, deep))), (("field", 3),) + way[1:], make)
        self.refused("a", ("rec", ((2, TEXT), (3, deep))), (("field", 1),), make)
        self.refused("a", ("rec", ((2, TEXT),)), (("field", 1),), make)

    def test_choices(self):
        self.told("shut", ("arm", 1, ZERO), ("arm", 1, 0))
        self.told("shut", ("arm", 4, ("rec", ((1, TEXT), (5, YES)))), ("arm", 4, ((7, True, ()), ((1, TEXT),))))
        self.told("wide", ("arm", 1, YES), ("arm", 1, 1))
        self.told("wide", ("arm", 4, ("arm", 1, YES)), ("arm", 4, ("arm", 1, 1)))
        for number in [2, 3, 5, 7, 999]:
            for item in [ZERO, TEXT, in_arms(ZERO, 90), ("arm", 1, TEXT)]:
                self.told("wide", ("arm", number, item), ("other", number, item))
                self.refused("shut", ("arm", number, item), ())
        self.refused("shut", ("arm", 1, TEXT), (("arm", 1),))
        self.refused("shut", ("arm", 1, ("whole", 71)), (("arm", 1),))
        self.refused("shut", ("arm", 4, ("rec", ())), (("arm", 4), ("field", 5)))
        self.refused("wide", ("arm", 1, ("whole", 71)), (("arm", 1),))
        self.refused("wide", ("arm", 4, ("arm", 7, ZERO)), (("arm", 4),))
        self.refused("wide", ("arm", 4, ("arm", 1, TEXT)), (("arm", 4), ("arm", 1)))

    def test_no_arms(self):
        make = ("a", {"a": ("choice", (), (5,), True), "b": ("choice", (), (5,), False)})
        for number in [1, 5, 999]:
            self.told("a", ("arm", number, ZERO), ("other", number, ZERO), make)
            self.refused("b", ("arm", number, ZERO), (), make)


class Deep(Held):
    """What can not be read, deep within rows, maps, records and arms."""

    FORMS = {
        "row": ("row", "map", 3),
        "map": ("map", "rec", 3),
        "rec": ("record", ((2, "a", "t", (True,)), (3, "b", "arm", ())), ()),
        "arm": ("choice", ((1, "a", "of"), (2, "b", "row")), (), False),
        "t": ("truth",),
        "n": ("whole", 0, 9),
    }
    FINE = ("row", (("map", ()), ("map", (("x", ("rec", ((3, ("arm", 2, ("row", ()))),))),))))
    WAY = (("at", 1), ("key", "b"), ("field", 3), ("arm", 1))

    def wrapped(self, item):
        rec = ("rec", ((1, TEXT), (2, ZERO), (3, ("arm", 1, item))))
        return ("row", (self.FINE[1][1], ("map", (("a", ("rec", ((3, ("arm", 2, self.FINE)),))), ("b", rec))), ("map", ())))

    def refused_within(self, shape, item, path):
        make = ("row", dict(self.FORMS, of=shape))
        self.refused("of", item, path, make)
        self.refused("row", self.wrapped(item), self.WAY + path, make)
        again = ("row", (("map", (("k", ("rec", ((3, ("arm", 2, self.wrapped(item))),))),)),))
        self.refused("row", again, (("at", 0), ("key", "k"), ("field", 3), ("arm", 2)) + self.WAY + path, make)

    def test_each(self):
        for item in ITEMS[1:]:
            self.refused_within(("whole", 0, 9), item, ())
            self.refused_within(("truth",), item, ())
        self.refused_within(("whole", 0, 9), ("whole", 10), ())
        self.refused_within(("whole", 0, 9), ("whole", -1), ())
        self.refused_within(("truth",), ("whole", 2), ())
        self.refused_within(("text", 2), ("text", "abc"), ())
        self.refused_within(("row", "n", 2), ("row", (ZERO,) * 3), ())
        self.refused_within(("row", "n", 2), ("row", (ZERO, TEXT)), (("at", 1),))
        self.refused_within(("map", "n", 1), ("map", (("a", ZERO), ("b", ZERO))), ())
        self.refused_within(("map", "n", 1), ("map", (("a", ("whole", 10)),)), (("key", "a"),))
        self.refused_within(("choice", ((1, "a", "n"),), (), False), ("arm", 2, ZERO), ())
        self.refused_within(("choice", ((1, "a", "n"),), (), False), ("arm", 1, TEXT), (("arm", 1),))
        self.refused_within(("record", ((7, "a", "n", ()),), ()), ("rec", ()), (("field", 7),))
        self.refused_within(("record", ((7, "a", "n", (0,)),), ()), ("rec", ((7, TEXT),)), (("field", 7),))

    def test_several_at_once_from_without(self):
        make = ("row", dict(self.FORMS, of=("whole", 0, 9)))
        wrong = self.wrapped(TEXT)
        self.refused("row", ("row", wrong[1] + (("map", ()),)), (), make)
        self.refused("row", ("row", (wrong[1][0], TEXT, TEXT)), (("at", 1),), make)
        self.refused("row", ("row", (wrong[1][1], TEXT)), (("at", 0),) + self.WAY[1:], make)
        many = tuple((key, TEXT) for key in "abcd")
        self.refused("row", ("row", (("map", many), TEXT)), (("at", 0),), make)
        self.refused("row", ("row", (("map", many[:3]), TEXT)), (("at", 0), ("key", "a")), make)

    def test_paths_are_as_looking_takes_them(self):
        rng = random.Random(301)
        seen = 0
        for make in small_makes(302, 200):
            for turn in range(10):
                item = random_item(rng, 4)
                told = outcome(make, "a", item)
                if told[0] != "path":
                    continue
                self.assertIsInstance(told[1], tuple)
                try:
                    item_at(packed(item), told[1])
                except NoPlace as refused:
                    # A field that lacks has the way that it would have.
                    self.assertEqual(refused.step, len(told[1]) - 1)
                    self.assertEqual(told[1][-1][0], "field")
                seen += 1
        self.assertGreater(seen, 500)

    def test_a_hundred_deep(self):
        make = ("a", {"a": ("row", "a", 3), "m": ("map", "b", 1), "b": ("record", ((1, "x", "c", ()),), ()),
                      "c": ("row", "m", 2), "d": ("choice", ((1, "x", "d"), (2, "y", "n")), (), False), "n": ("truth",)})
        value = ()
        for turn in range(99):
            value = (value,)
        self.told("a", in_rows(("row", ()), 99), value, make)
        self.refused("a", in_rows(ZERO, 99), (("at", 0),) * 99, make)
        self.told("d", ("arm", 1, in_arms(("arm", 2, ZERO), 97)), nest_arms(("arm", 2, False), 98), make)
        self.refused("d", in_arms(ZERO, 99), (("arm", 1),) * 99, make)
        steps = (("key", "a"), ("field", 1), ("at", 0))
        self.refused("m", in_all(ZERO, 33), steps * 33, make)
        self.refused("m", in_all(("rec", ()), 33), steps * 33, make)


def nest_arms(value, many):
    for turn in range(many):
        value = ("arm", 1, value)
    return value


def turned_items(rng, item):
    """The item with something turned at one place or at some."""
    if rng.random() < 0.25:
        return random_item(rng, 3)
    if item[0] in ("row", "map", "rec"):
        parts = list(item[1])
        if parts and rng.random() < 0.7:
            place = rng.randrange(len(parts))
            part = parts[place]
            parts[place] = turned_items(rng, part) if item[0] == "row" else (part[0], turned_items(rng, part[1]))
            if rng.random() < 0.3:
                parts.pop(rng.randrange(len(parts)))
        else:
            label = {"row": None, "map": "zzzzzzzz", "rec": 1000 - 1}[item[0]]
            inner = random_item(rng, 2)
            if item[0] == "row":
                parts.append(inner)
            elif not parts or parts[-1][0] != label:
                parts.append((label, inner))
        return (item[0], tuple(parts))
    if item[0] == "arm":
        return ("arm", rng.choice([item[1], 1, 2, 999]), turned_items(rng, item[2]))
    if item[0] == "whole":
        return ("whole", item[1] + rng.choice([1, -1]) if abs(item[1]) < MOST else 0)
    return ("text", item[1][:199] + "a")


class Drawn(unittest.TestCase):
    def some(self, seed, own=False):
        rng = random.Random(seed)
        for make in small_makes(seed, 200) + great_makes(seed, 40):
            for name in sorted(make[1]):
                for value in values_of(rng, make, name, 6, own):
                    yield rng, make, name, value

    def test_as_the_document_tells(self):
        seen = {"value": 0, "path": 0}
        for rng, make, name, value in self.some(311):
            item = written(make, name, value)
            for turn in range(4):
                told = outcome(make, name, item)
                self.assertTrue(same(told, outcome_plainly(make, name, item)), (make, name, item, told))
                seen[told[0]] += 1
                item = turned_items(rng, item)
        self.assertGreater(min(seen.values()), 2000)

    def test_any_item(self):
        rng = random.Random(312)
        for make in small_makes(313, 200):
            for turn in range(40):
                item = random_item(rng, 3)
                for name in make[1]:
                    told = outcome(make, name, item)
                    self.assertTrue(same(told, outcome_plainly(make, name, item)), (make, name, item, told))

    def test_what_was_written_is_read_again(self):
        for own in [True, False]:
            for rng, make, name, value in self.some(314, own):
                self.assertTrue(same(read(make, name, written(make, name, value)), value), (make, name, value))

    def test_what_was_read_is_written_again(self):
        shorter = 0
        for rng, make, name, value in self.some(315):
            item = written(make, name, value)
            for turn in range(4):
                item = turned_items(rng, with_defaults_there(rng, make, name, value) if turn % 2 else item)
                told = outcome(make, name, item)
                if told[0] == "path":
                    continue
                self.assertTrue(is_value(make, name, told[1]))
                again = written(make, name, told[1])
                self.assertTrue(same(again, without_defaults(make, name, item)), (make, name, item))
                shorter += again != item
        self.assertGreater(shorter, 100)

    def test_what_is_handed_in_stays(self):
        for rng, make, name, value in self.some(316):
            item = turned_items(rng, written(make, name, value))
            before = copy.deepcopy((make, item))
            outcome(make, name, item)
            self.assertEqual((make, item), before)


def with_defaults_there(rng, make, name, value):
    """The item of a value with some fields that are left out put there."""
    shape = make[1][name]
    if shape[0] == "row":
        return ("row", tuple(with_defaults_there(rng, make, shape[1], part) for part in value))
    if shape[0] == "map":
        return ("map", tuple((key, with_defaults_there(rng, make, shape[1], part)) for key, part in value))
    if shape[0] == "choice" and value[0] == "arm":
        return ("arm", value[1], with_defaults_there(rng, make, {arm[0]: arm[2] for arm in shape[1]}[value[1]], value[2]))
    if shape[0] == "record":
        items = dict(value[1])
        for (number, field, of, default), part in zip(shape[1], value[0]):
            if default != (part,) or rng.random() < 0.8:
                items[number] = with_defaults_there(rng, make, of, part)
        return ("rec", tuple((number, items[number]) for number in sorted(items)))
    return written(make, name, value)


def without_defaults(make, name, item):
    """An item that can be read, without the form's own fields that may be left out and stand there with their default."""
    shape = make[1][name]
    if shape[0] == "row":
        return ("row", tuple(without_defaults(make, shape[1], part) for part in item[1]))
    if shape[0] == "map":
        return ("map", tuple((key, without_defaults(make, shape[1], part)) for key, part in item[1]))
    members = {member[0]: member for member in shape[1]} if shape[0] in ("record", "choice") else {}
    if shape[0] == "choice" and item[1] in members:
        return ("arm", item[1], without_defaults(make, members[item[1]][2], item[2]))
    if shape[0] == "record":
        pairs = []
        for number, inner in item[1]:
            if number in members:
                inner = without_defaults(make, members[number][2], inner)
                if members[number][3] and inner == written(make, members[number][2], members[number][3][0]):
                    continue
            pairs.append((number, inner))
        return ("rec", tuple(pairs))
    return item


class Again(Held):
    def test_defaults_that_stood_there_go(self):
        rec = ("rec", ((3, ("whole", 7)), (4, ("whole", 7)), (5, YES), (9, ("row", ()))))
        self.assertEqual(written(MAKE, "rec", read(MAKE, "rec", rec)), ("rec", ((4, ("whole", 7)), (5, YES))))
        arm = ("arm", 4, rec)
        self.assertEqual(written(MAKE, "shut", read(MAKE, "shut", arm)), ("arm", 4, ("rec", ((4, ("whole", 7)), (5, YES)))))

    def test_what_the_form_does_not_know_stays(self):
        rec = ("rec", ((2, ("rec", ((3, ("whole", 7)),))), (5, YES), (999, ("row", (ZERO, TEXT)))))
        self.assertEqual(written(MAKE, "rec", read(MAKE, "rec", rec)), rec)
        arm = ("arm", 3, ("rec", ((3, ("whole", 7)), (9, ("row", ())))))
        self.assertEqual(written(MAKE, "wide", read(MAKE, "wide", arm)), arm)

    def test_what_is_told_is_the_askers_own(self):
        forms = dict(FORMS)
        item = ("rec", ((5, YES),))
        told = read(("rec", forms), "rec", item)
        forms.clear()
        self.assertEqual(told, ((7, True, ()), ()))
        with self.assertRaises(BadItem) as caught:
            read(MAKE, "rec", ("rec", ((3, TEXT),)))
        self.assertEqual(caught.exception.path, (("field", 3),))

    def test_the_order_of_names_is_no_matter(self):
        turned = ("rec", {name: FORMS[name] for name in sorted(FORMS, reverse=True)})
        rng = random.Random(317)
        for name in FORMS:
            for item in ITEMS + [random_item(rng, 3) for turn in range(100)]:
                self.assertEqual(outcome(MAKE, name, item), outcome(turned, name, item))


if __name__ == "__main__":
    unittest.main()
