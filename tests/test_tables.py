"""Points 2 and 72: tables of makes."""

import copy
import itertools
import random
import unittest

from makes.errors import MakeError, NoTable
from makes.tables import lets_table, table_of
from tests.drawing import great_makes, make_pairs, values_of
from tests.fleets_plainly import MAKES, SAME, some_makes
from tests.papers_plainly import is_read, is_turned, knows_plainly, lets_keep_plainly, lets_read_plainly
from tests.samples import DEEP_THINGS, WRONG_THINGS
from tests.values_plainly import is_value_plainly, same

THREE = some_makes("narrow", "wide", "more")
PAIRS = [("a", "b"), ("a", "c"), ("b", "a"), ("b", "c"), ("c", "a"), ("c", "b")]


class Tables(unittest.TestCase):
    def held(self, makes):
        before = copy.deepcopy(makes)
        table = table_of(makes)
        self.assertEqual(makes, before)
        self.assertIs(type(table), dict)
        self.assertEqual(sorted(table), sorted(itertools.permutations(sorted(makes), 2)))
        for (one, other), told in table.items():
            self.assertIs(type(told), tuple)
            self.assertEqual(len(told), 2)
            self.right(makes[one], makes[other], told)
        self.assertIs(lets_table(makes, table), True)
        self.assertIs(lets_table(makes, {pair: table[pair] for pair in sorted(table, reverse=True)}), True)
        self.assertIs(lets_table({name: makes[name] for name in sorted(makes, reverse=True)}, table), True)
        self.assertEqual(makes, before)
        return table

    def right(self, make, other, told):
        for (word, thing), is_right_paper, is_so in [
                (told[0], lambda paper: lets_read_plainly(make, other, paper), is_read),
                (told[1], lambda paper: lets_keep_plainly(make, other, paper) and knows_plainly(make, other, paper), is_turned)]:
            if word == "paper":
                self.assertTrue(is_right_paper(thing))
            else:
                self.assertEqual(word, "value")
                self.assertTrue(is_value_plainly(make, make[0], thing, own=True))
                self.assertFalse(is_so(make, other, thing))

    def words(self, makes):
        return {pair: (told[0][0], told[1][0]) for pair, told in self.held(makes).items()}

    def test_one_make(self):
        self.assertEqual(self.held({"a": MAKES["wide"]}), {})

    def test_two_makes(self):
        self.assertEqual(self.words(some_makes("narrow", "wide")), {("a", "b"): ("paper", "paper"), ("b", "a"): ("value", "value")})
        self.assertEqual(self.words(some_makes("wide", "more")), {("a", "b"): ("paper", "paper"), ("b", "a"): ("paper", "value")})
        self.assertEqual(self.words(some_makes("wide", "may")), {("a", "b"): ("paper", "value"), ("b", "a"): ("value", "value")})
        self.assertEqual(self.words(some_makes("arms", "broad")), {("a", "b"): ("paper", "value"), ("b", "a"): ("paper", "paper")})
        self.assertEqual(self.words(some_makes("wide", "wide")), {("a", "b"): ("paper", "paper"), ("b", "a"): ("paper", "paper")})

    def test_three_makes(self):
        told = self.words(THREE)
        self.assertEqual(told, {("a", "b"): ("paper", "paper"), ("a", "c"): ("paper", "paper"), ("b", "a"): ("value", "value"),
                                ("b", "c"): ("paper", "paper"), ("c", "a"): ("value", "value"), ("c", "b"): ("paper", "value")})
        for names in itertools.permutations(MAKES, 3):
            self.held(some_makes(*names))

    def test_any_names(self):
        for names in [["x"], ["abcdefgh", "a"], ["zz", "z", "y"]]:
            self.held({name: MAKES["wide"] for name in names})

    def test_what_is_told_is_the_askers_own(self):
        table = table_of(THREE)
        wanted = copy.deepcopy(table)
        table.clear()
        again = table_of(THREE)
        self.assertEqual([again[pair][0][0] for pair in PAIRS], [wanted[pair][0][0] for pair in PAIRS])
        self.assertIs(lets_table(THREE, wanted), True)

    def test_drawn(self):
        rng = random.Random(721)
        for make, other in make_pairs(722, 150):
            self.held({"a": make, "b": other, "c": rng.choice([make, other, SAME])})
        makes = great_makes(723, 30)
        for three in zip(makes, makes[1:], makes[2:]):
            table = table_of(dict(zip("abc", three)))
            self.assertIs(lets_table(dict(zip("abc", three)), table), True)


class Refused(unittest.TestCase):
    def refused(self, makes, thing, one, other, word):
        self.refused_by(makes, thing, one, other, word)
        self.refused_by({name: makes[name] for name in sorted(makes, reverse=True)}, thing, one, other, word)

    def refused_by(self, makes, thing, one, other, word):
        with self.subTest(thing=thing):
            before = copy.deepcopy((makes, thing))
            with self.assertRaises(NoTable) as caught:
                lets_table(makes, thing)
            self.assertTrue(same((caught.exception.one, caught.exception.other, caught.exception.word), (one, other, word)),
                            (caught.exception.one, caught.exception.other, caught.exception.word))
            self.assertIsInstance(caught.exception, MakeError)
            self.assertEqual((makes, thing), before)

    def shape(self, makes, thing):
        self.refused(makes, thing, "", "", "shape")

    def test_any_plain_thing(self):
        for makes in [THREE, some_makes("wide", "more"), some_makes("text")]:
            for thing in WRONG_THINGS + DEEP_THINGS + [1, "a", [()], [("a", "b")]]:
                if thing != {} or len(makes) > 1:
                    self.shape(makes, thing)
        self.assertIs(lets_table(some_makes("text"), {}), True)

    def test_pairs(self):
        for makes in [THREE, some_makes("wide", "more")]:
            table = table_of(makes)
            for pair in table:
                less = {other: told for other, told in table.items() if other != pair}
                self.shape(makes, less)
                for key in [("a", "a"), ("b", "a", "b"), ("a",), "ab", ("a", "d"), ("a", None), 1, None, (), ("A", "b"), (("a", "b"),), True]:
                    self.shape(makes, less | {key: table[pair]})
                    self.shape(makes, table | {key: table[pair]})
            self.shape(makes, sorted(table.items()))
            self.shape(makes, tuple(table.items()))
            self.shape(makes, {pair[0]: {pair[1]: told} for pair, told in table.items()})
            self.shape(makes, table_of(dict(makes, d=SAME)))
        self.shape(some_makes("text"), table_of(THREE))
        self.shape(THREE, {})

    def test_tuples_of_two(self):
        table = table_of(THREE)
        for pair in PAIRS:
            how, turn = table[pair]
            for wrong in [[how, turn], (how,), (how, turn, turn), (), None, how + turn, "ab", {0: how, 1: turn}, True, {how: turn}]:
                self.shape(THREE, table | {pair: wrong})

    def test_an_answer_that_is_wrong(self):
        table = table_of(THREE)
        for pair in PAIRS:
            how, turn = table[pair]
            for wrong in WRONG_THINGS + DEEP_THINGS + [list(how), how + (1,), how[:1], ("Paper", how[1]), ("paper", ((), ())), ("value", ((0,), ())),
                                                       ("value", None), ("paper", None), (how,)]:
                self.refused(THREE, table | {pair: (wrong, turn)}, pair[0], pair[1], "read")
                self.refused(THREE, table | {pair: (wrong, wrong)}, pair[0], pair[1], "read")
            for wrong in WRONG_THINGS + DEEP_THINGS + [list(turn), turn + (1,), turn[:1], ("paper", ((), ())), ("value", None), ("paper", None), (turn,)]:
                self.refused(THREE, table | {pair: (how, wrong)}, pair[0], pair[1], "turn")

    def test_several_at_once(self):
        table = table_of(THREE)
        for (place, one), (other_place, other) in itertools.product(enumerate(PAIRS), repeat=2):
            for kinds in itertools.product([0, 1], repeat=2):
                wrong = dict(table)
                for pair, kind in zip([one, other], kinds):
                    wrong[pair] = (None, wrong[pair][1]) if kind == 0 else (wrong[pair][0], None)
                first = min((place, kinds[0]), (other_place, kinds[1]))
                self.refused(THREE, wrong, PAIRS[first[0]][0], PAIRS[first[0]][1], ["read", "turn"][first[1]])

    def test_shape_ahead_of_all_else(self):
        table = table_of(THREE)
        wrong = {pair: (None, None) for pair in table}
        self.refused(THREE, wrong, "a", "b", "read")
        self.shape(THREE, wrong | {("c", "b"): None})
        self.shape(THREE, wrong | {("c", "c"): (None, None)})

    def test_papers_of_another_pair(self):
        table = table_of(THREE)
        # Of "more" the files are read by "wide", but it doesn't turn into it.
        paper = table[("c", "b")][0]
        self.refused(THREE, table | {("c", "b"): (paper, paper)}, "c", "b", "turn")
        self.refused(THREE, table | {("b", "a"): (table[("a", "b")])}, "b", "a", "read")
        self.refused(THREE, table | {("b", "a"): (table[("b", "a")][0], table[("a", "b")][1])}, "b", "a", "turn")

    def test_values_that_are_no_own_ones(self):
        table = table_of(THREE)
        for value in [((9,), ((7, ("whole", 1)),)), ((10,), ()), ((True,), ()), [(9,), ()], ((9,), [])]:
            self.refused(THREE, table | {("b", "a"): (("value", value), table[("b", "a")][1])}, "b", "a", "read")
            self.refused(THREE, table | {("b", "a"): (table[("b", "a")][0], ("value", value))}, "b", "a", "turn")
        for value in [((9,), ()), ((6,), ())]:
            self.assertIs(lets_table(THREE, table | {("b", "a"): (("value", value),) * 2}), True)
        self.refused(THREE, table | {("b", "a"): (("value", ((5,), ())),) * 2}, "b", "a", "read")

    def test_values_and_papers_of_others(self):
        """What is right is let by, whoever wrote it."""
        rng = random.Random(724)
        for make, other in make_pairs(725, 120):
            makes = {"a": make, "b": other}
            table = table_of(makes)
            for value in values_of(rng, make, make[0], 3):
                read = ("value", value)
                for how, turn, word in [(read, table[("a", "b")][1], None if not is_read(make, other, value) else "read"),
                                        (table[("a", "b")][0], read, None if not is_turned(make, other, value) else "turn")]:
                    if word is None:
                        self.assertIs(lets_table(makes, table | {("a", "b"): (how, turn)}), True)
                    else:
                        self.refused(makes, table | {("a", "b"): (how, turn)}, "a", "b", word)


if __name__ == "__main__":
    unittest.main()
