"""Points 2, 77 and 78: stores."""

import copy
import random
import unittest

from makes.alike import tells_alike
from makes.deciding import reads
from makes.errors import MakeError, NoFile, NoMove, NoTable, NoValue
from makes.files import kept, taken
from makes.fleets import faults, is_fleet, moves
from makes.store import Store
from makes.tables import table_of
from makes.values import is_own
from tests.drawing import variants
from tests.fleets_plainly import some_makes
from tests.samples import DEEP_THINGS, WRONG_THINGS, choice, record
from tests.values_plainly import same

# "a" is narrow and turns into "b", which is wide and turns into "c", which has a field more.
MAKES = some_makes("narrow", "wide", "more")
TABLE = table_of(MAKES)


def new_store(makes=None):
    makes = MAKES if makes is None else makes
    return Store(copy.deepcopy(makes), table_of(makes))


class Held(unittest.TestCase):
    def state(self, store):
        return (store.fleet(), store.many(), [(store.make_at(number), store.file(number)) for number in range(store.many())])

    def refused(self, store, call, kind, **fields):
        before = self.state(store)
        with self.assertRaises(kind) as caught:
            call()
        self.assertIs(type(caught.exception), kind)
        self.assertIsInstance(caught.exception, MakeError)
        for name, wanted in fields.items():
            self.assertTrue(same(getattr(caught.exception, name), wanted), getattr(caught.exception, name))
        self.assertTrue(same(self.state(store), before))


class Made(Held):
    def test_empty(self):
        store = new_store()
        self.assertTrue(same(self.state(store), (((), ()), 0, [])))

    def test_of_one_make(self):
        store = Store(some_makes("text"), {})
        store.come("p", "a", "a")
        self.assertTrue(same(store.put("p", "abc"), 0))
        self.assertTrue(same(store.read("p", 0), "abc"))
        self.refused(store, lambda: store.move(("turn", "a", "a")), NoMove, word="move")
        self.refused(store, lambda: store.move(("read", "p", "b")), NoMove, word="move")

    def test_of_a_wrong_table(self):
        for thing in WRONG_THINGS + DEEP_THINGS + [dict(list(TABLE.items())[1:]), list(TABLE.items())]:
            with self.assertRaises(NoTable) as caught:
                Store(MAKES, thing)
            self.assertEqual((caught.exception.one, caught.exception.other, caught.exception.word), ("", "", "shape"))
        for pair in TABLE:
            for place, word in enumerate(["read", "turn"]):
                answers = list(TABLE[pair])
                answers[place] = ("paper", ((), ()))
                with self.assertRaises(NoTable) as caught:
                    Store(MAKES, TABLE | {pair: tuple(answers)})
                self.assertEqual((caught.exception.one, caught.exception.other, caught.exception.word), pair + (word,))
        with self.assertRaises(NoTable):
            Store(some_makes("text"), TABLE)

    def test_what_is_handed_in_may_be_changed_behind_the_call(self):
        makes = copy.deepcopy(MAKES)
        table = table_of(makes)
        store = Store(makes, table)
        self.assertEqual((makes, table), (MAKES, table_of(MAKES)))
        for make in makes.values():
            make[1].clear()
        makes.clear()
        table.clear()
        store.come("p", "b", "a")
        self.assertEqual(store.put("p", ((5,), ())), 0)
        store.move(("write", "p", "b"))
        store.move(("turn", "a", "b"))
        self.assertEqual(store.read("p", 0), ((5,), ()))

    def test_two_stores_stand_apart(self):
        makes = copy.deepcopy(MAKES)
        table = table_of(makes)
        one = Store(makes, table)
        other = Store(makes, table)
        one.come("p", "a", "a")
        one.put("p", ((1,), ()))
        self.assertTrue(same(self.state(other), (((), ()), 0, [])))
        other.come("p", "b", "b")
        self.assertEqual(one.fleet(), (("a",), (("p", "a", "a"),)))
        self.assertEqual(other.fleet(), (("b",), (("p", "b", "b"),)))


class Programs(Held):
    def test_come(self):
        store = new_store()
        self.assertIsNone(store.come("q", "c", "b"))
        self.assertTrue(same(store.fleet(), (("b",), (("q", "c", "b"),))))
        self.assertIsNone(store.come("p", "b", "a"))
        self.assertTrue(same(store.fleet(), (("a", "b"), (("p", "b", "a"), ("q", "c", "b")))))
        self.assertIsNone(store.come("abcdefgh", "c", "c"))
        self.assertTrue(same(store.fleet(), (("a", "b", "c"), (("abcdefgh", "c", "c"), ("p", "b", "a"), ("q", "c", "b")))))

    def test_come_refused(self):
        store = new_store()
        store.come("p", "b", "b")
        for things in [("p", "b", "b"), ("p", "a", "a"), ("p", "c", "c"), ("q", "d", "b"), ("q", "b", "d"), ("q", "p", "b"), ("q", "d", "d"), ("p", "d", "d")]:
            self.refused(store, lambda: store.come(*things), NoMove, word="move")
        for things in [("q", "a", "b"), ("q", "a", "a"), ("q", "a", "c")]:
            self.refused(store, lambda: store.come(*things), NoMove, word="fault")
        store.come("q", "b", "a")
        self.refused(store, lambda: store.come("r", "a", "a"), NoMove, word="fault")

    def test_a_program_that_reads_what_others_do_not_write(self):
        """Faults of those that are there count, too."""
        store = new_store()
        store.come("p", "a", "a")
        self.refused(store, lambda: store.come("q", "b", "b"), NoMove, word="fault")
        self.refused(store, lambda: store.come("q", "c", "c"), NoMove, word="fault")
        store.come("q", "c", "a")
        self.assertEqual(store.fleet(), (("a",), (("p", "a", "a"), ("q", "c", "a"))))

    def test_what_stands_in_files_counts(self):
        store = new_store()
        store.come("p", "b", "b")
        store.put("p", ((9,), ()))
        store.go("p")
        self.assertEqual(store.fleet(), (("b",), ()))
        self.refused(store, lambda: store.come("q", "a", "a"), NoMove, word="fault")
        store.come("q", "b", "a")

    def test_go(self):
        store = new_store()
        self.refused(store, lambda: store.go("p"), NoMove, word="move")
        store.come("p", "b", "b")
        store.come("q", "b", "a")
        for name in ["", "r", "P", "pp", "b"]:
            self.refused(store, lambda: store.go(name), NoMove, word="move")
        self.assertIsNone(store.go("q"))
        self.assertEqual(store.fleet(), (("b",), (("p", "b", "b"),)))
        self.refused(store, lambda: store.go("q"), NoMove, word="move")
        store.go("p")
        self.assertEqual(store.fleet(), ((), ()))
        store.come("p", "a", "a")
        self.assertEqual(store.fleet(), (("a",), (("p", "a", "a"),)))


class Files(Held):
    def test_put_and_read(self):
        store = new_store()
        store.come("p", "c", "a")
        store.come("q", "b", "b")
        self.assertTrue(same(store.put("p", ((5,), ())), 0))
        self.assertTrue(same(store.put("q", ((9,), ())), 1))
        self.assertTrue(same(store.put("p", ((0,), ())), 2))
        self.assertTrue(same(store.many(), 3))
        self.assertTrue(same([store.make_at(number) for number in range(3)], ["a", "b", "a"]))
        self.assertTrue(same(store.file(0), kept(MAKES["a"], ((5,), ()))))
        self.assertTrue(same(store.file(1), (4, 3, 1, 0, 18)))
        self.assertTrue(same(store.read("p", 0), ((5, True), ())))
        self.assertTrue(same(store.read("p", 1), ((9, True), ())))
        self.assertTrue(same(store.read("q", 2), ((0,), ())))

    def test_what_is_not_known_is_read_all_the_same(self):
        store = new_store()
        store.come("p", "b", "c")
        store.put("p", ((9, False), ()))
        self.assertTrue(same(store.read("p", 0), ((9,), ((2, ("whole", 0)),))))

    def test_put_refused(self):
        store = new_store()
        store.come("p", "b", "b")
        for thing in WRONG_THINGS + DEEP_THINGS + [((10,), ()), ((-1,), ()), ((9,),), ((9, True), ()), ((9,), ((7, ("whole", 1)),)), [(9,), ()],
                                                   ((9,), []), ((True,), ()), ((9,), None), 9, (9,)]:
            self.refused(store, lambda: store.put("p", thing), NoValue)
            self.refused(store, lambda: store.put("q", thing), NoMove, word="move")
        self.refused(store, lambda: store.put("q", ((9,), ())), NoMove, word="move")
        for thing in variants(random.Random(771), ((9,), ())):
            if not is_own(MAKES["b"], "a", thing):
                self.refused(store, lambda: store.put("p", thing), NoValue)
        store.put("p", ((9,), ()))
        self.assertEqual(store.many(), 1)

    def test_own_values_of_the_make_that_is_written(self):
        store = new_store()
        store.come("p", "c", "a")
        self.refused(store, lambda: store.put("p", ((6,), ())), NoValue)
        self.refused(store, lambda: store.put("p", ((5, True), ())), NoValue)
        store.put("p", ((5,), ()))
        store = Store({"a": ("b", {"b": choice("t", wide=True), "t": ("truth",)})}, {})
        store.come("p", "a", "a")
        self.refused(store, lambda: store.put("p", ("other", 2, ("whole", 0))), NoValue)
        self.refused(store, lambda: store.put("p", ("arm", 2, True)), NoValue)
        store.put("p", ("arm", 1, True))

    def test_numbers_of_no_file(self):
        store = new_store()
        store.come("p", "b", "b")
        for many in range(3):
            for number in [-1, -2, -many - 1, many, many + 1, 10 ** 39, -10 ** 39]:
                for call in [store.file, store.make_at, lambda n: store.read("p", n)]:
                    self.refused(store, lambda: call(number), NoFile, number=number)
                self.refused(store, lambda: store.read("q", number), NoMove, word="move")
            store.put("p", ((many,), ()))
        self.refused(store, lambda: store.read("q", 0), NoMove, word="move")


class Moves(Held):
    def test_each_move(self):
        store = new_store()
        store.come("p", "a", "a")
        store.put("p", ((5,), ()))
        self.assertIsNone(store.move(("read", "p", "b")))
        self.assertTrue(same(store.fleet(), (("a",), (("p", "b", "a"),))))
        self.assertIsNone(store.move(("write", "p", "b")))
        self.assertTrue(same(store.fleet(), (("a", "b"), (("p", "b", "b"),))))
        self.assertIsNone(store.move(("turn", "a", "b")))
        self.assertTrue(same(store.fleet(), (("b",), (("p", "b", "b"),))))
        self.assertEqual(store.make_at(0), "b")

    def test_refused(self):
        store = new_store()
        store.come("p", "b", "b")
        store.put("p", ((9,), ()))
        for thing in WRONG_THINGS + DEEP_THINGS + [("read", "p", "b"), ("write", "p", "b"), ("turn", "a", "b"), ("turn", "b", "c"), ("turn", "c", "b"),
                                                   ("read", "q", "a"), ["read", "p", "c"], ("read", "p", "d"), ("come", "q", "a"), ("read", "p", "c", 1)]:
            self.refused(store, lambda: store.move(thing), NoMove, word="move")
        for thing in [("read", "p", "a")]:
            self.refused(store, lambda: store.move(thing), NoMove, word="fault")
        store.move(("read", "p", "c"))
        self.assertEqual(store.fleet(), (("b",), (("p", "c", "b"),)))

    def test_a_turn_writes_each_file_anew(self):
        """What stands there with the default of the other make is left out there."""
        makes = {"a": ("a", {"a": record("n"), "n": ("whole", 0, 5)}), "b": ("a", {"a": record(left_out=[("n", 7)]), "n": ("whole", 0, 9)})}
        store = new_store(makes)
        store.come("p", "b", "a")
        for n in [0, 5, 3]:
            store.put("p", ((n,), ()))
        store.move(("write", "p", "b"))
        store.put("p", ((7,), ()))
        self.assertEqual(store.file(3), (4, 0))
        store.move(("turn", "a", "b"))
        self.assertEqual([store.make_at(number) for number in range(4)], ["b"] * 4)
        for number, n in enumerate([0, 5, 3]):
            self.assertTrue(same(store.file(number), kept(makes["b"], ((n,), ()))))
            self.assertTrue(same(taken(makes["a"], store.file(number)), ((n,), ())))

    def test_a_turn_tells_files_by_the_other_make(self):
        """A field that is written by the one, and left out by the other, where both may leave it out."""
        makes = {"a": ("a", {"a": record(left_out=[("n", 3)]), "n": ("whole", 3, 3)}), "b": ("a", {"a": record(), "n": ("whole", 0, 9)})}
        store = new_store(makes)
        store.come("p", "b", "a")
        store.put("p", ((3,), ()))
        store.move(("write", "p", "b"))
        store.move(("turn", "a", "b"))
        self.assertTrue(same(store.read("p", 0), ((), ())))
        self.assertTrue(same(taken(makes["a"], store.file(0)), ((3,), ())))

    def test_other_files_stay(self):
        store = new_store()
        store.come("p", "c", "a")
        store.put("p", ((1,), ()))
        store.move(("write", "p", "b"))
        store.put("p", ((2,), ()))
        store.move(("write", "p", "c"))
        store.put("p", ((3, False), ()))
        store.move(("turn", "a", "c"))
        self.assertEqual([store.make_at(number) for number in range(3)], ["c", "b", "c"])
        self.assertEqual([store.read("p", number) for number in range(3)], [((1, True), ()), ((2, True), ()), ((3, False), ())])
        self.assertEqual(store.fleet(), (("b", "c"), (("p", "c", "c"),)))

    def test_a_make_by_which_nothing_stands_is_in_files_no_more(self):
        store = new_store()
        store.come("p", "b", "a")
        store.move(("write", "p", "b"))
        self.assertEqual(store.fleet(), (("b",), (("p", "b", "b"),)))
        self.refused(store, lambda: store.move(("turn", "a", "b")), NoMove, word="move")
        store.move(("write", "p", "a"))
        store.put("p", ((1,), ()))
        store.move(("write", "p", "b"))
        self.assertEqual(store.fleet(), (("a", "b"), (("p", "b", "b"),)))
        store.go("p")
        self.assertEqual(store.fleet(), (("a",), ()))
        store.move(("turn", "a", "c"))
        self.assertEqual(store.fleet(), (("c",), ()))

    def test_programs_that_are_called_like_makes(self):
        store = new_store()
        store.come("a", "b", "a")
        store.put("a", ((1,), ()))
        store.move(("read", "a", "c"))
        self.assertEqual(store.make_at(0), "a")
        store.move(("write", "a", "c"))
        self.assertEqual(store.make_at(0), "a")
        self.assertEqual(store.fleet(), (("a", "c"), (("a", "c", "c"),)))
        store.move(("turn", "a", "b"))
        self.assertEqual(store.make_at(0), "b")

    def test_what_is_told_stays(self):
        store = new_store()
        store.come("p", "b", "a")
        store.put("p", ((1,), ()))
        fleet, file = store.fleet(), store.file(0)
        store.move(("write", "p", "b"))
        store.move(("turn", "a", "b"))
        self.assertEqual(fleet, (("a",), (("p", "b", "a"),)))
        self.assertEqual(file, kept(MAKES["a"], ((1,), ())))


class Walks(Held):
    def held(self, store, makes, table):
        fleet = store.fleet()
        self.assertTrue(is_fleet(makes, fleet))
        self.assertEqual(faults(fleet, table), [])
        for number in range(store.many()):
            make = makes[store.make_at(number)]
            standing = taken(make, store.file(number))
            self.assertTrue(is_own(make, make[0], standing))
            self.assertEqual(kept(make, standing), store.file(number))
            for name, by, writes in fleet[1]:
                told = store.read(name, number)
                self.assertTrue(tells_alike(make, make[0], standing, makes[by], makes[by][0], told))

    def test_any_walk(self):
        rng = random.Random(781)
        values = {"a": [((0,), ()), ((5,), ())], "b": [((0,), ()), ((9,), ())], "c": [((9, False), ()), ((0, True), ()), ((3, False), ())]}
        for turn in range(15):
            store = new_store()
            put = []
            for step in range(40):
                fleet = store.fleet()
                deed = rng.choice(["come", "go", "put", "put", "move", "move", "move"])
                name = rng.choice("pqr")
                there = {program[0]: program[2] for program in fleet[1]}
                if deed == "come":
                    try:
                        store.come(name, rng.choice("abc"), rng.choice("abc"))
                    except NoMove:
                        self.assertEqual(store.fleet(), fleet)
                elif deed == "go" and name in there and rng.random() < 0.3:
                    store.go(name)
                elif deed == "put" and name in there:
                    value = rng.choice(values[there[name]])
                    self.assertEqual(store.put(name, value), len(put))
                    put.append((there[name], value))
                elif deed == "move" and moves(fleet, TABLE):
                    store.move(rng.choice(moves(fleet, TABLE)))
                self.held(store, MAKES, TABLE)
                self.assertEqual(store.many(), len(put))
                for number, (make, value) in enumerate(put):
                    self.assertTrue(same(taken(MAKES[make], store.file(number)), value))

    def test_the_table_is_of_reading(self):
        """The one's files are read by the other: not the other way about."""
        self.assertEqual(reads(MAKES["a"], MAKES["b"])[0], "paper")
        self.assertEqual(reads(MAKES["b"], MAKES["a"])[0], "value")
        store = new_store()
        store.come("p", "b", "a")
        self.refused(store, lambda: store.come("q", "a", "b"), NoMove, word="fault")


if __name__ == "__main__":
    unittest.main()
