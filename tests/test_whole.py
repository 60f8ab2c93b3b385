"""Point 5, over the whole: with makes and deeds drawn by a fixed rule, a store is walked by plans and moves."""

import copy
import random
import unittest

from makes.alike import tells_alike
from makes.deeds import all_done
from makes.desk import Desk
from makes.errors import NoMove
from makes.files import kept, taken
from makes.fleets import faults, is_fleet, moves
from makes.history import first_wrong
from makes.maketexts import shown_make
from makes.plans import lets_plan, plan
from makes.store import Store
from makes.tables import lets_table, table_of
from makes.values import is_own
from tests.deeds_plainly import right_deeds
from tests.drawing import linked_make, make_pairs, small_make, values_of
from tests.fleets_plainly import all_fleets
from tests.values_plainly import same

GROWING = ["add", "add", "add", "rename", "widen", "widen", "arm", "arm", "open", "form"]


def rows_of_makes(seed, many, words):
    """Three makes of a row that follow one another, the first and the last among them, by the names a, b and c."""
    rng = random.Random(seed)
    for turn in range(many):
        make = rng.choice([small_make, linked_make])(rng)
        made = all_done(make, right_deeds(rng, make, rng.randint(2, 6), words)[0])
        yield rng, {"a": made[0], "b": made[rng.randint(1, len(made) - 2)], "c": made[-1]}


class Held(unittest.TestCase):
    def held(self, store, makes, table, put):
        """Each program reads each file to what tells alike what stands there; what was put is what the elder make reads."""
        fleet = store.fleet()
        self.assertTrue(is_fleet(makes, fleet))
        self.assertEqual(faults(fleet, table), [])
        self.assertEqual(store.many(), len(put))
        for number, (name, value) in enumerate(put):
            make = makes[store.make_at(number)]
            standing = taken(make, store.file(number))
            self.assertTrue(is_own(make, make[0], standing))
            self.assertTrue(same(kept(make, standing), store.file(number)))
            self.assertTrue(same(taken(makes[name], store.file(number)), value))
            for program, by, writes in fleet[1]:
                told = store.read(program, number)
                self.assertTrue(tells_alike(make, make[0], standing, makes[by], makes[by][0], told))

    def put_some(self, rng, store, makes, put):
        for name, by, writes in store.fleet()[1]:
            for value in values_of(rng, makes[writes], makes[writes][0], 2):
                self.assertEqual(store.put(name, value), len(put))
                put.append((writes, value))

    def walk(self, store, makes, table, goal, put, rng):
        """Along a plan to the goal, with more put on the way; True where one leads there."""
        fleet = store.fleet()
        told = plan(fleet, goal, table)
        self.assertIs(lets_plan(fleet, goal, table, told), True)
        if told[0] == "closed":
            return False
        for move in told[1]:
            # Where no file stands by the make any more, there is nothing to turn.
            if move[0] == "turn" and move[1] not in store.fleet()[0]:
                with self.assertRaises(NoMove):
                    store.move(move)
            else:
                store.move(move)
            self.held(store, makes, table, put)
            if rng.random() < 0.5:
                self.put_some(rng, store, makes, put)
        return True


class Walks(Held):
    def test_from_the_first_make_to_the_last(self):
        """All that the first make wrote is turned into the last one, by deeds that take nothing away."""
        done = 0
        for rng, makes in rows_of_makes(51, 60, GROWING):
            self.assertIsNone(first_wrong([makes["a"], makes["b"], makes["c"]]))
            table = table_of(makes)
            store = Store(makes, table)
            store.come("p", "a", "a")
            store.come("q", "a", "a")
            put = []
            self.put_some(rng, store, makes, put)
            first = list(put)
            # Deeds of this sort always bring papers by which files are kept: so all of it can be gone.
            goal = (("c",), (("p", "c", "c"), ("q", "c", "c")))
            self.assertTrue(self.walk(store, makes, table, goal, put, rng))
            done += len(first) > 0
            for number, (name, value) in enumerate(first):
                self.assertEqual(store.make_at(number), "c")
                self.assertTrue(same(taken(makes["a"], store.file(number)), value))
        self.assertGreater(done, 40)

    def test_from_make_to_make(self):
        """By the one between."""
        for rng, makes in rows_of_makes(52, 30, GROWING):
            table = table_of(makes)
            store = Store(makes, table)
            store.come("p", "a", "a")
            put = []
            self.put_some(rng, store, makes, put)
            for name in "bc":
                self.assertTrue(self.walk(store, makes, table, ((name,), (("p", name, name),)), put, rng))
            for number in range(store.many()):
                self.assertEqual(store.make_at(number), "c")

    def test_any_makes_and_any_goals(self):
        rng = random.Random(53)
        seen = [0, 0]
        for turn, (make, other) in enumerate(make_pairs(54, 80)):
            third = linked_make(rng) if turn % 4 == 0 else all_done(other, right_deeds(rng, other, 2)[0])[-1]
            makes = dict(zip(rng.sample("abc", 3), [make, other, third]))
            table = table_of(makes)
            self.assertIs(lets_table(makes, table), True)
            store = Store(makes, table)
            put = []
            for name in "pq":
                for attempt in range(4):
                    try:
                        store.come(name, rng.choice("abc"), rng.choice("abc"))
                        break
                    except NoMove:
                        self.held(store, makes, table, put)
            self.put_some(rng, store, makes, put)
            goals = list(all_fleets("abc", [program[0] for program in store.fleet()[1]]))
            for goal in rng.sample(goals, min(4, len(goals))):
                seen[self.walk(store, makes, table, goal, put, rng)] += 1
            for step in range(4):
                let = moves(store.fleet(), table)
                if let:
                    store.move(rng.choice(let))
                    self.held(store, makes, table, put)
        self.assertGreater(min(seen), 40)

    def test_by_rows(self):
        """The same at a desk: bytes are put, a plan is asked for, its moves are told; the first make reads what was put."""
        for rng, makes in rows_of_makes(55, 30, GROWING):
            desk = Desk({name: shown_make(make) for name, make in makes.items()})
            desk.say("come p a a")
            values = values_of(rng, makes["a"], makes["a"][0], 3)
            for number, value in enumerate(values):
                row = "put p " + ".".join(str(byte) for byte in kept(makes["a"], value))
                self.assertEqual(desk.say(row), str(number))
            for move in desk.say("plan c / p c c").split("; "):
                try:
                    self.assertEqual(desk.say("move " + move), "ok")
                except NoMove:
                    self.assertEqual(values, [])
            for number, value in enumerate(values):
                name, told = desk.say("file " + str(number)).split(" ")
                self.assertEqual(name, "c")
                self.assertTrue(same(taken(makes["a"], [int(byte) for byte in told.split(".")]), value))

    def test_what_is_handed_in_stays(self):
        for rng, makes in rows_of_makes(56, 20, GROWING):
            table = table_of(makes)
            before = copy.deepcopy((makes, table))
            store = Store(makes, table)
            store.come("p", "a", "a")
            put = []
            self.put_some(rng, store, makes, put)
            self.walk(store, makes, table, (("c",), (("p", "c", "c"),)), put, rng)
            self.assertEqual((makes, table), before)


if __name__ == "__main__":
    unittest.main()
