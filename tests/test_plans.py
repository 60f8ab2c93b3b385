"""Points 2, 5, 75 and 76: plans, and the small checker of them."""

import copy
import itertools
import random
import unittest

from makes.fleets import moved
from makes.plans import lets_plan, plan
from makes.tables import table_of
from tests.fleets_plainly import (SAME, all_fleets, behind_plainly, distances, faults_plainly, forged, forged_tables, is_fleet_plainly,
                                  moves_plainly, some_makes)
from tests.samples import DEEP_THINGS, WRONG_THINGS
from tests.values_plainly import same

MAKES = some_makes("narrow", "wide", "text")
TABLE = table_of(MAKES)
ALL = table_of({name: SAME for name in "abc"})
START = (("a",), (("p", "a", "a"),))
END = (("b",), (("p", "b", "b"),))
WAY = [("read", "p", "b"), ("write", "p", "b"), ("turn", "a", "b")]


def closed_plainly(fleet, goal, table, names, fleets):
    if type(fleets) is not list or not all(is_fleet_plainly(names, some) for some in fleets):
        return False
    if fleets != sorted(set(fleets)) or fleet not in fleets or goal in fleets or any(faults_plainly(some, table) for some in fleets):
        return False
    return all(behind_plainly(some, table, names, move) in fleets for some in fleets for move in moves_plainly(some, table, names))


class Held(unittest.TestCase):
    def held(self, fleet, goal, table, names, steps):
        """Steps: how many moves it takes, None where none lead there."""
        before = copy.deepcopy((fleet, goal, table))
        told = plan(fleet, goal, table)
        self.assertEqual((fleet, goal, table), before)
        self.assertIs(type(told), tuple)
        self.assertEqual(len(told), 2)
        self.assertIs(type(told[1]), list)
        if steps is None:
            self.assertEqual(told[0], "closed")
            self.assertTrue(closed_plainly(fleet, goal, table, names, told[1]))
        else:
            self.assertEqual((told[0], len(told[1])), ("moves", steps))
            for move in told[1]:
                fleet = behind_plainly(fleet, table, names, move)
            self.assertTrue(same(fleet, goal))
        self.assertIs(lets_plan(before[0], goal, table, told), True)
        return told


class Plans(Held):
    def told(self, fleet, goal, steps, table=TABLE, names="abc"):
        with self.subTest(fleet=fleet, goal=goal):
            told = self.held(fleet, goal, table, names, steps)
            told[1].append(None)
            self.held(fleet, goal, table, names, steps)

    def test_to_the_fleet_itself(self):
        for fleet in [((), ()), (("a",), ()), (("a", "b", "c"), ()), START, END, (("a", "b"), (("p", "b", "a"), ("q", "b", "b")))]:
            self.told(fleet, fleet, 0)
        self.assertTrue(same(plan(START, START, TABLE), ("moves", [])))

    def test_at_each_distance(self):
        self.told(START, (("a",), (("p", "b", "a"),)), 1)
        self.told(START, (("a", "b"), (("p", "b", "b"),)), 2)
        self.told(START, END, 3)
        self.assertTrue(same(plan(START, END, TABLE), ("moves", WAY)))
        two = (("a",), (("p", "a", "a"), ("q", "a", "a")))
        self.told(two, (("b",), (("p", "b", "b"), ("q", "b", "b"))), 5)
        self.told(two, (("c",), (("p", "c", "c"), ("q", "c", "c"))), 5, ALL)
        self.told(two, (("a", "b"), (("p", "b", "a"), ("q", "b", "b"))), 3)

    def test_there_and_back(self):
        self.told(END, (("a", "b"), (("p", "b", "a"),)), 1)
        self.told((("a", "b"), (("p", "b", "a"),)), START, None)
        self.told(END, START, None)
        self.told(START, END, 3, ALL)
        self.told(END, START, 3, ALL)

    def test_that_no_row_of_moves_leads_to(self):
        self.told(START, (("c",), (("p", "c", "c"),)), None)
        self.told(START, ((), (("q", "a", "a"),))[:1] + ((),), None)
        self.told((("a",), ()), (("a", "b"), ()), None)
        self.told((("b",), ()), (("a",), ()), None)
        self.told((("a", "b"), ()), ((), ()), None, ALL)
        self.told(((), ()), (("a",), ()), None, ALL)

    def test_goals_with_faults(self):
        self.told(START, (("b",), (("p", "a", "b"),)), None)
        self.told(START, (("a", "c"), (("p", "a", "a"),)), None)
        self.told(START, (("a",), (("p", "c", "a"),)), None)

    def test_of_one_make(self):
        for programs in [(), (("p", "a", "a"),), (("p", "a", "a"), ("q", "a", "a"))]:
            fleet = (("a",), programs)
            self.told(fleet, fleet, 0, {}, "a")
        self.told((("a",), ()), ((), ()), None, {}, "a")
        self.told(((), ()), (("a",), ()), None, {}, "a")
        self.assertTrue(same(plan((("a",), ()), ((), ()), {}), ("closed", [(("a",), ())])))

    def test_of_two_makes(self):
        table = table_of(some_makes("narrow", "wide"))
        self.told(START, END, 3, table, "ab")
        self.told(END, START, None, table, "ab")
        table = table_of(some_makes("wide", "more"))
        self.told(START, END, 3, table, "ab")
        self.told(END, (("a", "b"), (("p", "a", "a"),)), 2, table, "ab")
        self.told(END, START, None, table, "ab")

    def test_all_goals(self):
        rng = random.Random(751)
        seen = set()
        for table in itertools.chain([TABLE, ALL], forged_tables(rng, 12)):
            for programs in [[], ["p"]]:
                fleets = list(all_fleets("abc", programs))
                right = [fleet for fleet in fleets if not faults_plainly(fleet, table)]
                for fleet in rng.sample(right, min(3, len(right))):
                    steps = distances(fleet, table, "abc")
                    for goal in fleets:
                        told = plan(fleet, goal, table)
                        self.assertEqual(len(told[1]) if told[0] == "moves" else None, steps.get(goal))
                        seen.add(steps.get(goal))
                    for goal in rng.sample(fleets, 3):
                        self.told(fleet, goal, steps.get(goal), table)
        self.assertLessEqual({None, 0, 1, 2, 3, 4}, seen)

    def test_of_two_programs(self):
        rng = random.Random(752)
        seen = set()
        for table in itertools.chain([TABLE, ALL], forged_tables(rng, 8)):
            fleets = list(all_fleets("abc", ["p", "q"]))
            right = [fleet for fleet in fleets if not faults_plainly(fleet, table)]
            for fleet in rng.sample(right, 1):
                steps = distances(fleet, table, "abc")
                for goal in rng.sample(fleets, 4) + rng.sample(right, 3) + [max(steps, key=steps.get)]:
                    self.told(fleet, goal, steps.get(goal), table)
                    seen.add(steps.get(goal))
        self.assertLessEqual({None, 2, 3, 4, 5}, seen)

    def test_the_order_of_names_is_no_matter(self):
        turned = {pair: TABLE[pair] for pair in sorted(TABLE, reverse=True)}
        for goal in all_fleets("abc", ["p"]):
            self.assertEqual(plan(START, goal, turned)[0], plan(START, goal, TABLE)[0])


class LetsPlan(Held):
    def told(self, fleet, goal, thing, wanted, table=TABLE):
        with self.subTest(fleet=fleet, goal=goal, thing=thing):
            before = copy.deepcopy((fleet, goal, table, thing))
            self.assertIs(lets_plan(fleet, goal, table, thing), wanted)
            self.assertEqual((fleet, goal, table, thing), before)

    def test_any_plain_thing(self):
        for thing in WRONG_THINGS + DEEP_THINGS:
            for some in [thing, ("moves", thing), ("closed", thing), ("moves", [thing]), ("closed", [thing]), (thing, WAY), (thing, thing),
                         ("moves",), ("moves", WAY, thing), ("moves", WAY + [thing]), ("moves", [thing] + WAY), ("closed", [START, thing])]:
                self.told(START, END, some, False)

    def test_rows_of_moves(self):
        self.told(START, END, ("moves", WAY), True)
        self.told(START, START, ("moves", []), True)
        self.told(START, END, ("moves", []), False)
        longer = [("read", "p", "b"), ("read", "p", "a"), ("read", "p", "b"), ("write", "p", "b"), ("write", "p", "a"), ("write", "p", "b"), ("turn", "a", "b")]
        self.told(START, END, ("moves", longer), True)
        self.told(START, START, ("moves", longer[:2]), True)
        for wrong in [WAY[:2], WAY[1:], WAY[::-1], WAY + WAY[2:], WAY + [("write", "p", "a")], WAY[:1] * 2 + WAY[1:], [WAY[1], WAY[0], WAY[2]],
                      [WAY[0], WAY[2], WAY[1]], [list(move) for move in WAY], WAY[:2] + [("turn", "a", "c")], WAY[:2] + [("turn", "b", "a")]]:
            self.told(START, END, ("moves", wrong), False)

    def test_kinds(self):
        for wrong in [["moves", WAY], ("moves", tuple(WAY)), ("Moves", WAY), ("closed", WAY), ("move", WAY), (WAY,), WAY, ("moves", WAY, None), (["moves"], WAY),
                      {"moves": WAY}, ("moves", dict(enumerate(WAY)))]:
            self.told(START, END, wrong, False)

    def test_another_goal(self):
        for goal in all_fleets("abc", ["p"]):
            self.told(START, goal, ("moves", WAY), goal == END)

    def test_fleets_that_no_move_leaves(self):
        goal = (("c",), (("p", "c", "c"),))
        fleets = plan(START, goal, TABLE)[1]
        self.assertGreater(len(fleets), 4)
        self.told(START, goal, ("closed", fleets), True)
        for place, fleet in enumerate(fleets):
            self.told(START, goal, ("closed", fleets[:place] + fleets[place + 1:]), fleet == fleets[place] and self.is_free(fleets, place, goal))
            self.told(START, goal, ("closed", fleets[:place] + [fleet] + fleets[place:]), False)
            self.told(START, fleet, ("closed", fleets), False)
            self.told(START, goal, ("closed", fleets[:place] + [(list(fleet[0]), fleet[1])] + fleets[place + 1:]), False)
            self.told(START, goal, ("closed", fleets[:place] + [list(fleet)] + fleets[place + 1:]), False)
        self.told(START, goal, ("closed", fleets[::-1]), False)
        self.told(START, goal, ("closed", tuple(fleets)), False)
        self.told(START, goal, ["closed", fleets], False)
        self.told(START, goal, ("Closed", fleets), False)
        self.told(START, goal, ("moves", fleets), False)
        self.told(START, goal, ("closed", []), False)
        self.told(START, goal, ("closed", [START]), False)

    def is_free(self, fleets, place, goal):
        """Whether the list without this one is right all the same."""
        return closed_plainly(START, goal, TABLE, "abc", fleets[:place] + fleets[place + 1:])

    def test_more_fleets_than_are_come_to(self):
        """Any list that no move leaves is right."""
        goal = (("c",), (("p", "c", "c"),))
        fleets = plan(END, goal, TABLE)[1]
        more = [fleet for fleet in all_fleets("abc", ["p"]) if not faults_plainly(fleet, TABLE) and fleet != goal]
        self.assertLess(len(fleets), len(more))
        self.told(END, goal, ("closed", sorted(more)), True)
        self.told(END, goal, ("closed", sorted(more + [goal])), False)
        self.told(END, goal, ("closed", sorted(fleets + [((), ())])), True)
        self.told(END, goal, ("closed", sorted(fleets + [(("a",), ())])), False)
        self.told(END, goal, ("closed", sorted(fleets + [(("a",), ()), (("b",), ())])), True)

    def test_fleets_with_faults(self):
        goal = (("c",), (("p", "c", "c"),))
        fleets = plan(START, goal, TABLE)[1]
        for wrong in [(("b",), (("p", "a", "b"),)), (("c",), (("p", "b", "c"),)), (("a", "b", "c"), (("p", "b", "b"),))]:
            self.assertTrue(faults_plainly(wrong, TABLE))
            self.told(START, goal, ("closed", sorted(fleets + [wrong])), False)
        for wrong in [(("d",), ()), (("a",), (("p", "a", "b"),)), (("b", "a"), ())]:
            self.told(START, goal, ("closed", sorted(fleets + [wrong])), False)

    def test_the_first_fleet_is_among_them(self):
        goal = (("c",), (("p", "c", "c"),))
        self.told(START, goal, ("closed", [((), ())]), False)
        self.told(((), ()), (("a",), ()), ("closed", [((), ())]), True)

    def test_of_one_make(self):
        fleet = (("a",), (("p", "a", "a"),))
        self.told(fleet, fleet, ("moves", []), True, {})
        self.told(fleet, fleet, ("closed", [fleet]), False, {})
        self.told((("a",), ()), ((), ()), ("closed", [(("a",), ())]), True, {})
        self.told((("a",), ()), ((), ()), ("closed", [((), ()), (("a",), ())]), False, {})
        self.told((("a",), ()), ((), ()), ("moves", []), False, {})
        self.told((("a",), ()), ((), ()), ("moves", [("turn", "a", "a")]), False, {})

    def test_drawn(self):
        rng = random.Random(761)
        seen = {"moves": [], "closed": []}
        for table in itertools.chain([TABLE, ALL], forged_tables(rng, 25)):
            fleets = list(all_fleets("abc", ["p"]))
            right = [fleet for fleet in fleets if not faults_plainly(fleet, table)]
            for turn in range(12):
                fleet, goal = rng.choice(right), rng.choice(fleets)
                told = plan(fleet, goal, table)
                self.told(fleet, goal, told, True, table)
                for other in [self.turned(rng, told, right), self.turned(rng, plan(fleet, rng.choice(fleets), table), right)]:
                    wanted = self.is_right(fleet, goal, table, other)
                    seen[other[0]].append(wanted)
                    self.told(fleet, goal, other, wanted, table)
        for word in seen:
            self.assertGreater(min(seen[word].count(True), seen[word].count(False)), 10, word)

    def turned(self, rng, told, right):
        things = list(told[1])
        more = rng.choice(right) if told[0] == "closed" else (rng.choice(["read", "write"]), "p", rng.choice("abc"))
        way = rng.choice(["less", "more", "swap", "double", "as it is"])
        place = rng.randint(0, max(0, len(things) - 1))
        if way == "less":
            things = things[:place] + things[place + 1:]
        elif way == "more":
            things.insert(place, more)
            things = sorted(set(things)) if told[0] == "closed" else things
        elif way == "swap":
            things = things[:place] + things[place:][::-1]
        elif way == "double":
            things = things + things[place:place + 1]
        return (told[0], things)

    def is_right(self, fleet, goal, table, told):
        if told[0] == "closed":
            return closed_plainly(fleet, goal, table, "abc", told[1])
        for move in told[1]:
            fleet = behind_plainly(fleet, table, "abc", move)
            if isinstance(fleet, str):
                return False
        return fleet == goal

    def test_let_by_leads_there(self):
        fleet = START
        for move in WAY:
            fleet = moved(fleet, TABLE, move)
        self.assertEqual(fleet, END)
        table = forged("abc", [], [])
        self.told(START, END, ("moves", WAY), False, table)


if __name__ == "__main__":
    unittest.main()
