"""Points 2 and 79: a desk, which is told rows and answers with texts."""

import copy
import random
import re
import unittest

from makes.desk import Desk
from makes.errors import BadByte, BadItem, MakeError, NoFile, NoMove, NoRow, NoValue
from makes.files import kept, taken
from makes.forms import is_make
from makes.maketexts import shown_make
from makes.packing import packed
from makes.plans import plan
from makes.store import Store
from makes.tables import table_of
from tests.fleets_plainly import all_fleets, some_makes
from tests.samples import ALL_SIGNS, WRONG_THINGS
from tests.values_plainly import same

# "a" is narrow and turns into "b", which is wide and turns into "c", which has a field more.
MAKES = some_makes("narrow", "wide", "more")
# The bytes of the values with the number 5, and with 5 and a field that is False.
FIVE = "4.3.1.0.10"
FALSE = "4.6.1.0.10.2.0.0"


def new_desk(makes=None):
    makes = MAKES if makes is None else makes
    return Desk({name: shown_make(make) for name, make in makes.items()})


class Held(unittest.TestCase):
    def setUp(self):
        self.desk = new_desk()

    def say(self, row, wanted):
        told = self.desk.say(row)
        self.assertTrue(same(told, wanted), (row, told))

    def state(self):
        told = [self.desk.say("fleet"), self.desk.say("moves")]
        for number in range(100):
            try:
                told.append(self.desk.say("file " + str(number)))
            except NoFile:
                return told
        return told

    def refused(self, row, kind, **fields):
        with self.subTest(row=row):
            before = self.state()
            with self.assertRaises(kind) as caught:
                self.desk.say(row)
            self.assertIs(type(caught.exception), kind)
            self.assertIsInstance(caught.exception, MakeError)
            for name, wanted in fields.items():
                self.assertTrue(same(getattr(caught.exception, name), wanted), getattr(caught.exception, name))
            self.assertEqual(self.state(), before)


class Rows(Held):
    def test_nothing_to_tell(self):
        self.say("fleet", "-")
        self.say("moves", "-")
        self.say("plan -", "-")

    def test_come_and_go(self):
        self.say("come q b a", "ok")
        self.say("fleet", "a / q b a")
        self.say("come abcdefgh c b", "ok")
        self.say("fleet", "a b / abcdefgh c b / q b a")
        self.say("go q", "ok")
        self.say("fleet", "b / abcdefgh c b")
        self.say("go abcdefgh", "ok")
        self.say("fleet", "-")

    def test_put_file_and_read(self):
        self.say("come p c a", "ok")
        self.say("put p " + FIVE, "0")
        self.say("put p 4.3.1.0.0", "1")
        self.say("file 0", "a " + FIVE)
        self.say("file 1", "a 4.3.1.0.0")
        self.say("read p 0", FIVE)
        self.say("read p 1", "4.3.1.0.0")

    def test_read_tells_what_the_make_that_reads_writes(self):
        """Known there or not, it is written again; but a field that is known and has its default goes."""
        self.say("come p b c", "ok")
        self.say("put p " + FALSE, "0")
        self.say("read p 0", FALSE)
        self.desk = new_desk(some_makes("wide", "may"))
        self.say("come p b a", "ok")
        self.say("put p 4.3.1.0.6", "0")
        self.say("file 0", "a 4.3.1.0.6")
        self.say("read p 0", "4.0")
        self.say("put p " + FIVE, "1")
        self.say("read p 1", FIVE)

    def test_put_writes_the_value_anew(self):
        """A field that stands there with its default goes."""
        self.say("come p c c", "ok")
        self.say("put p 4.6.1.0.10.2.0.2", "0")
        self.say("file 0", "c " + FIVE)
        self.say("read p 0", FIVE)

    def test_move(self):
        self.say("come p a a", "ok")
        self.say("put p " + FIVE, "0")
        self.say("moves", "read p b; read p c")
        self.say("move read p b", "ok")
        self.say("moves", "read p a; read p c; write p b; write p c")
        self.say("move write p b", "ok")
        self.say("moves", "read p c; turn a b; turn a c; write p a; write p c")
        self.say("fleet", "a b / p b b")
        self.say("move turn a b", "ok")
        self.say("fleet", "b / p b b")
        self.say("file 0", "b " + FIVE)
        self.say("moves", "read p c; write p a; write p c")

    def test_moves_where_there_are_none(self):
        self.desk = new_desk(some_makes("text"))
        self.say("come p a a", "ok")
        self.say("moves", "-")
        self.say("put p 1.3.97.98.99", "0")
        self.say("file 0", "a 1.3.97.98.99")
        self.say("plan a / p a a", "-")
        self.refused("plan a", NoMove, word="move")

    def test_plan(self):
        self.say("come p a a", "ok")
        self.say("plan a / p a a", "-")
        self.say("plan a / p b a", "read p b")
        self.say("plan b / p b b", "read p b; write p b; turn a b")
        self.refused("plan - / p b b", NoMove, word="move")
        self.say("plan b / p a b", "closed")
        self.say("plan a b / p a a", "closed")
        self.say("plan a b / p b a", "read p b; write p b; write p a")

    def test_plans_are_by_fleets_alone(self):
        """No file stands by the make: its turn is told, and refused."""
        self.say("come p a a", "ok")
        for move in self.desk.say("plan b / p b b").split("; ")[:2]:
            self.say("move " + move, "ok")
        self.say("fleet", "b / p b b")
        self.refused("move turn a b", NoMove, word="move")

    def test_plans_of_two_programs(self):
        self.say("come p a a", "ok")
        self.say("come q a a", "ok")
        self.say("put p " + FIVE, "0")
        told = self.desk.say("plan c / p c c / q c c").split("; ")
        self.assertEqual(len(told), 5)
        for move in told:
            self.say("move " + move, "ok")
        self.say("fleet", "c / p c c / q c c")
        self.say("plan a / p a a / q a a", "closed")
        self.say("read q 0", FIVE)

    def test_plans_without_programs(self):
        self.say("come p a a", "ok")
        self.say("put p " + FIVE, "0")
        self.say("go p", "ok")
        self.say("plan a", "-")
        self.say("plan c", "turn a c")
        self.say("plan -", "closed")
        self.say("plan a b", "closed")
        self.refused("plan a / p a a", NoMove, word="move")

    def test_great_numbers(self):
        self.say("come p c c", "ok")
        for number in range(130):
            self.say("put p 4.3.1.0." + str(2 * (number % 10)), str(number))
        self.say("file 100", "c 4.3.1.0.0")
        self.say("read p 129", "4.3.1.0.18")
        self.refused("file 130", NoFile, number=130)
        self.refused("file 9999", NoFile, number=9999)
        self.refused("read p 9999", NoFile, number=9999)

    def test_bytes_of_each_size(self):
        self.desk = new_desk({"a": ("r", {"r": ("row", "s", 20), "s": ("text", 200)})})
        self.say("come p a a", "ok")
        for number, value in enumerate([(), ("",), ("a" * 200,), (ALL_SIGNS, "b" * 127)]):
            told = ".".join(str(byte) for byte in kept(("r", {"r": ("row", "s", 20), "s": ("text", 200)}), value))
            self.say("put p " + told, str(number))
            self.say("file " + str(number), "a " + told)
            self.say("read p " + str(number), told)


class Refused(Held):
    def setUp(self):
        Held.setUp(self)
        self.desk.say("come p b a")
        self.desk.say("put p " + FIVE)

    def test_no_row(self):
        right = ["come q b a", "go p", "move read p a", "move write p b", "move turn a b", "put p " + FIVE, "read p 0", "file 0", "moves", "fleet",
                 "plan a / p b a", "plan -"]
        for row in right:
            words = row.split(" ")
            wrong = [" " + row, row + " ", row.replace(" ", "  ", 1), row.upper(), row.capitalize(), row + " a", row + "\n", "\n" + row, row + ".",
                     row.replace(" ", "\t", 1), " ".join(words[:-1]), " ".join(words[1:]), words[0] + " ", row + "; " + row, row + " " + row]
            if row.startswith("plan"):
                wrong.remove(row + " a")
            for some in wrong:
                if some not in right and some not in ["plan a / p b a a"]:
                    self.refused(some, NoRow)
        for row in ["", " ", "-", "ok", "store", "many", "make", "make a", "come", "put", "move", "file", "read", "go", "plan", "done", "moves -", "fleet -"]:
            self.refused(row, NoRow)

    def test_names(self):
        for name in ["abcdefghi", "", "A", "p1", "P", "p.", "-", "/", "1", "p-q"]:
            for row in ["come X b a", "come q X a", "come q b X", "go X", "move read X a", "move read p X", "move write X a", "move write p X", "move turn X b",
                        "move turn a X", "put X " + FIVE, "read X 0", "plan X / p b a", "plan a X / p b a", "plan a / X b a", "plan a / p X a", "plan a / p b X"]:
                if row != "plan X / p b a" or name != "-":
                    self.refused(row.replace("X", name), NoRow)

    def test_numbers(self):
        for word in ["00", "01", "0001", "10000", "12345", "-1", "-0", "+1", "1.0", "a", "", "1 ", "0x1", "1_0", "100000000000000000000"]:
            self.refused("file " + word, NoRow)
            self.refused("read p " + word, NoRow)
            self.refused("read nobody " + word, NoRow)
        self.refused("file 1", NoFile, number=1)
        self.refused("file 9999", NoFile, number=9999)

    def test_bytes(self):
        for word in ["256", "0.256", "00", "4.03.1.0.10", "4..3", ".4", "4.", "-1", "4.-1", "1000", "999", "4,3,1,0,10", "4 3 1 0 10", "4.3.1.0.10 ", "a", "", "-",
                     "4.3.1.0.1_0", "4.3.1.0.+9", "."]:
            self.refused("put p " + word, NoRow)
            self.refused("put nobody " + word, NoRow)

    def test_fleets(self):
        for text in ["", " ", "/", "a /", "a / ", "a / p", "a / p b", "a / p b a a", "a/ p b a", "a /p b a", "a / p b a /", "a / p b a / ", "/ p b a", " / p b a",
                     "a  / p b a", "a /  p b a", "a / p  b a", "a / / p b a", "- a / p b a", "a - / p b a", "a -", "--", "a; b", "a / p b a;", "a // p b a",
                     "a / p b -", "a / - b a", "- /", "(a)", "a,b"]:
            self.refused("plan " + text, NoRow)

    def test_come_go_and_move(self):
        for row in ["come p b a", "come p d d", "come q d a", "come q b d", "go q", "move read q a", "move read p b", "move read p d", "move write p a",
                    "move write p d", "move turn a b", "move turn a a", "move turn b a", "move turn d a", "move turn a d", "move turn p a"]:
            self.refused(row, NoMove, word="move")
        self.say("move read p a", "ok")
        for row in ["come q b b", "come q c c", "move write p b", "move write p c"]:
            self.refused(row, NoMove, word="fault")

    def test_other_moves(self):
        for word in ["come", "go", "put", "move", "turns", "Read", ""]:
            self.refused("move " + word + " p a", NoRow)

    def test_put(self):
        self.refused("put q " + FIVE, NoMove, word="move")
        self.refused("put q 9", NoMove, word="move")
        self.refused("put q 0.0", NoMove, word="move")
        self.refused("put p 9", BadByte, at=0)
        self.refused("put p 4.3.1.0", BadByte, at=1)
        self.refused("put p " + FIVE + ".0", BadByte, at=5)
        self.refused("put p 4", BadByte, at=1)
        self.refused("put p 255", BadByte, at=0)
        self.refused("put p 0.255.255.255.255.255.255.255.255.255", BadByte, at=9)
        self.refused("put p 0.0", BadItem, path=())
        self.refused("put p 4.0", BadItem, path=(("field", 1),))
        self.refused("put p 4.3.1.0.12", BadItem, path=(("field", 1),))
        self.refused("put p " + FALSE, NoValue)
        self.say("put p 4.3.1.0.0", "1")

    def test_put_of_an_other(self):
        self.desk = new_desk(some_makes("broad"))
        self.say("come p a a", "ok")
        self.refused("put p 5.2.0.0", NoValue)
        self.say("put p 5.1.0.0", "0")

    def test_read_and_file(self):
        self.refused("read q 0", NoMove, word="move")
        self.refused("read q 1", NoMove, word="move")
        self.refused("read p 1", NoFile, number=1)
        self.refused("file 1", NoFile, number=1)

    def test_plan(self):
        for text in ["-", "a", "a b", "a / q b a", "a / p b a / q b a", "- / p b a", "b / p b a", "a / p b b", "a / p d a", "d / p b d", "a d / p b a", "b a / p b a",
                     "a a / p b a", "a / p b a / p b a", "a / q b a / p b a", "a / p b a / p b b", "- / p b a / p b a"]:
            self.refused("plan " + text, NoMove, word="move")

    def test_any_text(self):
        rng = random.Random(791)
        words = ["come", "go", "move", "read", "write", "turn", "put", "file", "moves", "fleet", "plan", "p", "a", "b", "0", "1", FIVE, "/", "-", ""]
        for turn in range(1500):
            row = " ".join(rng.choice(words) for place in range(rng.randint(1, 6)))
            if turn % 3 == 0:
                row = "".join(rng.choice(ALL_SIGNS) for place in range(rng.randint(0, 12)))
            try:
                told = new_desk({"a": MAKES["a"]}).say(row)
            except MakeError as error:
                self.assertEqual(isinstance(error, NoRow), not is_row(row), (row, error))
            else:
                self.assertTrue(is_row(row), row)
                self.assertIs(type(told), str)

    def test_things_that_are_texts_alone(self):
        for thing in WRONG_THINGS:
            if isinstance(thing, str):
                self.refused(thing, NoRow)


def is_row(row):
    """By a pattern: another reading of the same words."""
    name = "[a-z]{1,8}"
    byte = "(0|[1-9][0-9]?|1[0-9][0-9]|2[0-4][0-9]|25[0-5])"
    number = "(0|[1-9][0-9]{0,3})"
    patterns = ["come N N N", "go N", "move (read|write|turn) N N", "put N B([.]B)*", "read N M", "file M", "moves", "fleet", "plan (-|N( N)*)( / N N N)*"]
    return any(re.fullmatch(some.replace("N", name).replace("B", byte).replace("M", number), row) for some in patterns)


class Desks(unittest.TestCase):
    def test_what_is_handed_in_may_be_changed_behind_the_call(self):
        rows = {name: shown_make(make) for name, make in MAKES.items()}
        before = copy.deepcopy(rows)
        desk = Desk(rows)
        self.assertEqual(rows, before)
        for texts in rows.values():
            texts.clear()
        rows.clear()
        self.assertEqual(desk.say("come p b a"), "ok")
        self.assertEqual(desk.say("put p " + FIVE), "0")
        self.assertEqual(desk.say("plan b / p b b"), "write p b; turn a b")

    def test_two_desks_stand_apart(self):
        rows = {name: shown_make(make) for name, make in MAKES.items()}
        one, other = Desk(rows), Desk(rows)
        one.say("come p b a")
        self.assertEqual(other.say("fleet"), "-")

    def test_the_order_of_names_is_no_matter(self):
        rows = {name: shown_make(make) for name, make in MAKES.items()}
        turned = {name: rows[name] for name in sorted(rows, reverse=True)}
        said = ["come p a a", "put p " + FIVE, "moves", "plan c / p c c", "move read p c", "moves", "fleet", "plan a / p a a"]
        one, other = Desk(rows), Desk(turned)
        self.assertEqual([one.say(row) for row in said], [other.say(row) for row in said])

    def test_as_a_store(self):
        """Rows drawn by a fixed rule, held against a store."""
        rng = random.Random(792)
        table = table_of(MAKES)
        values = {"a": [((0,), ()), ((5,), ())], "b": [((0,), ()), ((9,), ())], "c": [((9, False), ()), ((0, True), ())]}
        for turn in range(10):
            desk = new_desk()
            store = Store(MAKES, table)
            for step in range(60):
                name, one, other = rng.choice("pq"), rng.choice("abcd"), rng.choice("abc")
                value = rng.choice(values[other])
                number = rng.randint(0, 4)
                text = ".".join(str(byte) for byte in kept(MAKES[other], value))
                word = rng.choice(["read", "write", "turn"])
                first = one if word == "turn" else name
                for row, call in rng.sample([
                        (f"come {name} {one} {other}", lambda: store.come(name, one, other) or "ok"), (f"go {name}", lambda: store.go(name) or "ok"),
                        (f"put {name} {text}", lambda: str(store.put(name, taken(MAKES[store.program(name)[2]], kept(MAKES[other], value))))),
                        (f"move {word} {first} {other}", lambda: store.move((word, first, other)) or "ok"),
                        (f"move {word} {first} {other}", lambda: store.move((word, first, other)) or "ok"),
                        (f"read {name} {number}", lambda: shown(kept(MAKES[store.program(name)[1]], store.read(name, number)))),
                        (f"file {number}", lambda: store.make_at(number) + " " + shown(store.file(number))),
                        ("fleet", lambda: fleet_text(store.fleet()))], 4):
                    self.assertEqual(outcome(lambda: desk.say(row)), outcome(call), row)
                    self.assertEqual(desk.say("fleet"), fleet_text(store.fleet()))

    def test_plans_as_they_are_told(self):
        table = table_of(MAKES)
        desk = new_desk()
        desk.say("come p a a")
        fleet = (("a",), (("p", "a", "a"),))
        seen = set()
        for goal in all_fleets("abc", ["p"]):
            told = plan(fleet, goal, table)
            text = desk.say("plan " + fleet_text(goal))
            seen.add(told[0])
            if told[0] == "closed":
                self.assertEqual(text, "closed")
            else:
                self.assertEqual([tuple(move.split(" ")) for move in text.split("; ") if text != "-"], told[1])
        self.assertEqual(len(seen), 2)

    def test_makes_are_read(self):
        for make in MAKES.values():
            self.assertTrue(is_make(make))
        desk = Desk({"a": ["make r", "form r record", "field 1 x s text  ", "struck", "form s text 5"]})
        desk.say("come p a a")
        self.assertEqual(desk.say("put p " + shown(packed(("rec", ((1, ("text", " ")),))))), "0")
        self.assertEqual(desk.say("file 0"), "a 4.0")


def outcome(call):
    try:
        return call()
    except MakeError as error:
        return (type(error).__name__, vars(error))


def shown(file):
    return ".".join(map(str, file))


def fleet_text(fleet):
    return " / ".join([" ".join(fleet[0]) or "-"] + [" ".join(program) for program in fleet[1]])


if __name__ == "__main__":
    unittest.main()
