"""Points 2, 73 and 74: fleets, their faults and their moves."""

import copy
import itertools
import random
import unittest

from makes.errors import MakeError, NoMove
from makes.fleets import faults, is_fleet, moved, moves
from makes.tables import table_of
from tests.drawing import variants
from tests.fleets_plainly import (SAME, all_fleets, behind_plainly, faults_plainly, forged, forged_tables, is_fleet_plainly, moves_plainly,
                                  some_makes)
from tests.samples import DEEP_THINGS, WRONG_THINGS
from tests.values_plainly import same

# "a" is narrow and turns into "b", which is wide; "c" has nothing to do with both.
MAKES = some_makes("narrow", "wide", "text")
TABLE = table_of(MAKES)
# Here each turns into each.
ALL = table_of({name: SAME for name in "abc"})


class IsFleet(unittest.TestCase):
    RIGHT = [((), ()), (("a",), ()), (("a", "b", "c"), ()), (("a",), (("p", "a", "a"),)), (("a",), (("p", "c", "a"),)),
             (("a", "b"), (("p", "c", "b"), ("q", "a", "a"))), (("b",), (("abcdefgh", "b", "b"), ("b", "b", "b"), ("c", "b", "b"))),
             (("a", "c"), (("a", "b", "c"),))]

    def told(self, thing, wanted, makes=MAKES):
        with self.subTest(thing=thing):
            before = copy.deepcopy((makes, thing))
            self.assertIs(is_fleet(makes, thing), wanted)
            self.assertTrue(same(thing, before[1]) or isinstance(thing, dict))
            self.assertEqual((makes, thing), before)

    def test_fleets(self):
        for fleet in self.RIGHT:
            self.told(fleet, True)
            self.told(fleet, True, {name: MAKES[name] for name in "cba"})

    def test_any_plain_thing(self):
        for thing in WRONG_THINGS + DEEP_THINGS:
            self.told(thing, False)
            for some in [(thing, ()), ((), thing), (thing, thing), ((thing,), ()), (("a",), (thing,)), (("a",), ((thing, "a", "a"),)),
                         (("a",), (("p", thing, "a"),)), (("a",), (("p", "a", thing),)), ((), (), thing)]:
                if some not in [((), ()), (("a",), ())] and thing != "a":
                    self.told(some, False)

    def test_lists_for_tuples(self):
        fleet = (("a", "b"), (("p", "c", "b"), ("q", "a", "a")))
        for wrong in [list(fleet), (["a", "b"], fleet[1]), (fleet[0], list(fleet[1])), (fleet[0], (["p", "c", "b"], ("q", "a", "a"))), ([], ()), ((), [])]:
            self.told(wrong, False)

    def test_files(self):
        for files in [("b", "a"), ("a", "a"), ("d",), ("a", "d"), ("A",), ("",), "a", "ab", (1,), (None,), (("a",),), (["a"],), ("a", "c", "b"), {"a": 1}]:
            self.told((files, ()), False)

    def test_programs(self):
        for programs in [(("p", "a"),), (("p", "a", "a", "a"),), (("p", "a", "b"),), (("p", "d", "a"),), (("p", "a", "d"),), (("P", "a", "a"),),
                         (("", "a", "a"),), (("abcdefghi", "a", "a"),), (("q", "a", "a"), ("p", "a", "a")), (("p", "a", "a"), ("p", "a", "a")),
                         (("p", "a", "a"), ("p", "b", "a")), ((1, "a", "a"),), ("paa",), (("p", ("a",), "a"),), (("p", "a", None),), ("p", "a", "a"),
                         ((),), (("p", "a", "a"), ())]:
            self.told((("a",), programs), False)

    def test_what_a_program_writes_is_in_files(self):
        for files in [(), ("b",), ("c",), ("b", "c")]:
            self.told((files, (("p", "b", "a"),)), False)
        self.told((("a", "b"), (("p", "b", "a"), ("q", "b", "c"))), False)

    def test_makes(self):
        self.told((("a",), (("p", "a", "a"),)), True, {"a": SAME})
        self.told((("a",), (("p", "b", "a"),)), False, {"a": SAME})
        self.told((("b",), ()), False, {"a": SAME})
        self.told(((), ()), True, {"a": SAME})
        self.told((("x", "zz"), (("p", "zz", "x"),)), True, {"zz": SAME, "x": SAME})

    def test_drawn(self):
        rng = random.Random(731)
        seen = []
        for fleet in self.RIGHT:
            for some in variants(rng, fleet) + [rng.choice(variants(rng, some)) for some in variants(rng, fleet) for turn in range(4)]:
                wanted = is_fleet_plainly("abc", some)
                seen.append(wanted)
                self.told(some, wanted)
        self.assertGreater(seen.count(True), 5)
        self.assertGreater(seen.count(False), 500)


class Faults(unittest.TestCase):
    def told(self, fleet, wanted, table=TABLE):
        before = copy.deepcopy((fleet, table))
        told = faults(fleet, table)
        self.assertTrue(same(told, wanted), (fleet, told))
        self.assertEqual((fleet, table), before)
        told.append(None)
        self.assertTrue(same(faults(fleet, table), wanted))

    def test_of_right_fleets(self):
        for fleet in [((), ()), (("a", "b", "c"), ()), (("a",), (("p", "a", "a"),)), (("a",), (("p", "b", "a"),)), (("a", "b"), (("p", "b", "a"),)),
                      (("c",), (("p", "c", "c"),))]:
            self.told(fleet, [])

    def test_of_others(self):
        self.told((("a",), (("p", "c", "a"),)), [("p", "a")])
        self.told((("b",), (("p", "a", "b"),)), [("p", "b")])
        self.told((("a", "b"), (("p", "a", "a"), ("q", "b", "b"))), [("p", "b")])
        self.told((("a", "b", "c"), (("p", "a", "a"), ("q", "b", "b"), ("r", "c", "c"))),
                  [("p", "b"), ("p", "c"), ("q", "c"), ("r", "a"), ("r", "b")])
        self.told((("a", "c"), (("aa", "c", "c"), ("b", "a", "a"))), [("aa", "a"), ("b", "c")])

    def test_of_one_make(self):
        self.told(((), ()), [], {})
        self.told((("a",), ()), [], {})
        self.told((("a",), (("p", "a", "a"), ("q", "a", "a"))), [], {})

    def test_drawn(self):
        rng = random.Random(732)
        for table in itertools.chain([TABLE, ALL], forged_tables(rng, 20)):
            for fleet in itertools.chain(all_fleets("abc", []), all_fleets("abc", ["p"]), rng.sample(list(all_fleets("abc", ["p", "q"])), 60)):
                self.told(fleet, faults_plainly(fleet, table), table)


class Moves(unittest.TestCase):
    def told(self, fleet, wanted, table=TABLE):
        """Just these moves are let; wanted is a dict from them to the fleets behind."""
        with self.subTest(fleet=fleet):
            before = copy.deepcopy((fleet, table))
            told = moves(fleet, table)
            self.assertTrue(same(told, sorted(wanted)), told)
            for move in told:
                self.assertTrue(same(moved(fleet, table, move), wanted[move]), moved(fleet, table, move))
            self.assertEqual((fleet, table), before)
            told.append(None)
            self.assertTrue(same(moves(fleet, table), sorted(wanted)))

    def refused(self, fleet, move, word, table=TABLE):
        with self.subTest(fleet=fleet, move=move):
            before = copy.deepcopy((fleet, table, move))
            with self.assertRaises(NoMove) as caught:
                moved(fleet, table, move)
            self.assertTrue(same(caught.exception.word, word), caught.exception.word)
            self.assertIsInstance(caught.exception, MakeError)
            self.assertEqual((fleet, table, move), before)
            self.assertNotIn(move, moves(fleet, table))

    def test_read_and_write(self):
        self.told((("a",), (("p", "a", "a"),)), {("read", "p", "b"): (("a",), (("p", "b", "a"),))})
        self.told((("a",), (("p", "b", "a"),)), {("read", "p", "a"): (("a",), (("p", "a", "a"),)),
                                                 ("write", "p", "b"): (("a", "b"), (("p", "b", "b"),))})
        self.told((("b",), (("p", "b", "b"),)), {("write", "p", "a"): (("a", "b"), (("p", "b", "a"),))})
        self.told((("c",), (("p", "c", "c"),)), {})

    def test_turn(self):
        self.told((("a",), ()), {("turn", "a", "b"): (("b",), ())})
        self.told((("a", "b"), ()), {("turn", "a", "b"): (("b",), ())})
        self.told((("a", "c"), ()), {("turn", "a", "b"): (("b", "c"), ())})
        self.told((("b", "c"), ()), {})
        self.told((("a", "b"), (("p", "b", "b"),)), {("turn", "a", "b"): (("b",), (("p", "b", "b"),)),
                                                     ("write", "p", "a"): (("a", "b"), (("p", "b", "a"),))})
        self.told((("a", "b"), (("p", "b", "a"),)), {("write", "p", "b"): (("a", "b"), (("p", "b", "b"),))})

    def test_of_nothing(self):
        self.told(((), ()), {})
        self.told(((), ()), {}, {})
        self.told((("a",), ()), {}, {})
        self.told((("a",), (("p", "a", "a"),)), {}, {})

    def test_two_programs(self):
        self.told((("a",), (("p", "b", "a"), ("q", "a", "a"))), {
            ("read", "p", "a"): (("a",), (("p", "a", "a"), ("q", "a", "a"))), ("read", "q", "b"): (("a",), (("p", "b", "a"), ("q", "b", "a")))})
        self.refused((("a",), (("p", "b", "a"), ("q", "a", "a"))), ("write", "p", "b"), "fault")

    def test_each_turns_into_each(self):
        self.told((("a", "b"), ()), {("turn", one, other): (tuple(sorted({"a", "b", other} - {one})), ()) for one in "ab" for other in "abc"
                                     if one != other}, ALL)

    def test_no_move(self):
        fleet = (("a", "b"), (("p", "b", "b"),))
        for thing in WRONG_THINGS + DEEP_THINGS:
            for move in [thing, (thing, "p", "a"), ("read", thing, "a"), ("read", "p", thing), ("write", "p", thing), ("turn", thing, "b"),
                         ("turn", "a", thing), (thing, thing, thing), ("turn", "a", "b", thing)]:
                if move != ("read", "p", "a"):
                    self.refused(fleet, move, "move")
        for move in [("read", "p", "b"), ("write", "p", "b"), ("turn", "a", "a"), ("turn", "b", "b"), ("read", "p", "d"), ("write", "p", "d"),
                     ("turn", "a", "d"), ("turn", "d", "b"), ("read", "q", "a"), ("write", "q", "a"), ("read", "a", "a"), ("turn", "c", "b"),
                     ("turn", "b", "a"), ("turn", "a", "c"), ("Read", "p", "a"), ("reads", "p", "a"), ("", "p", "a"), ("turned", "a", "b"),
                     ("read", "p", "p"), ("write", "p", "p"), ("turn", "a", "p"), ("turn", "p", "a"), ["turn", "a", "b"], ("turn", "a"), ("turn",), ("turn", "a", "b", "b"), (("turn", "a", "b"),), ("turn", ["a"], "b"),
                     ("write", "p", ("a",)), "turn a b", {"turn": ("a", "b")}, ("come", "p", "a"), ("read", "P", "a"), ("p", "read", "a")]:
            self.refused(fleet, move, "move")

    def test_a_turn_of_what_a_program_writes(self):
        self.refused((("a",), (("p", "b", "a"),)), ("turn", "a", "b"), "move")
        self.refused((("a", "b"), (("p", "b", "b"), ("q", "b", "a"))), ("turn", "a", "b"), "move")
        self.refused((("a",), (("p", "a", "a"),)), ("turn", "a", "b"), "move")

    def test_fault(self):
        self.refused((("a",), (("p", "a", "a"),)), ("read", "p", "c"), "fault")
        self.refused((("a",), (("p", "a", "a"),)), ("write", "p", "b"), "fault")
        self.refused((("a",), (("p", "a", "a"),)), ("write", "p", "c"), "fault")
        self.refused((("b",), (("p", "b", "b"),)), ("read", "p", "a"), "fault")
        table = forged("abc", [("a", "b"), ("b", "a"), ("c", "a"), ("c", "b")], [("c", "b"), ("c", "a")])
        self.refused((("c",), (("p", "a", "c"),)), ("turn", "c", "b"), "move", table)
        table = forged("abc", [("c", "a"), ("c", "b")], [("c", "b"), ("c", "a")])
        self.refused((("a", "c"), (("p", "a", "a"),)), ("turn", "c", "b"), "fault", table)

    def test_of_one_make(self):
        fleet = (("a",), (("p", "a", "a"),))
        for move in [("read", "p", "a"), ("read", "p", "b"), ("write", "p", "b"), ("turn", "a", "b"), ("turn", "a", "a"), None]:
            self.refused(fleet, move, "move", {})

    def test_drawn(self):
        rng = random.Random(741)
        seen = {"fault": 0, "move": 0, "let": 0}
        for table in itertools.chain([TABLE, ALL], forged_tables(rng, 25)):
            fleets = itertools.chain(all_fleets("abc", []), all_fleets("abc", ["p"]), rng.sample(list(all_fleets("abc", ["a", "q"])), 60))
            for fleet in [fleet for fleet in fleets if not faults_plainly(fleet, table)]:
                let = moves_plainly(fleet, table, "abc")
                self.told(fleet, {move: behind_plainly(fleet, table, "abc", move) for move in let}, table)
                seen["let"] += len(let)
                for turn in range(6):
                    move = tuple(rng.choice(words) for words in [["read", "write", "turn"], "abcpq", "abcd"])
                    behind = behind_plainly(fleet, table, "abc", move)
                    if isinstance(behind, str):
                        seen[behind] += 1
                        self.refused(fleet, move, behind, table)
                    else:
                        self.assertIn(move, let)
        self.assertGreater(min(seen.values()), 80)

    def test_behind_each_move_all_is_right(self):
        rng = random.Random(742)
        for table in forged_tables(rng, 15):
            for fleet in all_fleets("abc", ["p"]):
                if not faults_plainly(fleet, table):
                    for move in moves(fleet, table):
                        behind = moved(fleet, table, move)
                        self.assertTrue(is_fleet_plainly("abc", behind))
                        self.assertEqual(faults_plainly(behind, table), [])

    def test_the_order_of_names_is_no_matter(self):
        for fleet in all_fleets("abc", ["p"]):
            turned = {pair: TABLE[pair] for pair in sorted(TABLE, reverse=True)}
            self.assertEqual(moves(fleet, turned), moves(fleet, TABLE))
            self.assertEqual(faults(fleet, turned), faults(fleet, TABLE))


if __name__ == "__main__":
    unittest.main()
