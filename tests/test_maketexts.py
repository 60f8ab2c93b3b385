"""Points 2, 26 and 27: makes as lines, and lines read."""

import copy
import itertools
import unittest

from makes.errors import BadText
from makes.forms import is_make
from makes.maketexts import read_make, shown_make
from tests.drawing import great_makes
from tests.samples import ALL_SIGNS

MOST = 10 ** 18
FIELDS = (
    (1, "must", "rec", ()),
    (2, "whole", "n", (-5,)),
    (30, "yes", "t", (True,)),
    (31, "no", "t", (False,)),
    (500, "none", "r", ((),)),
    (501, "nomap", "m", ((),)),
    (998, "text", "s", ("two  words ",)),
    (999, "empty", "s", ("",)),
)
MAKE = ("rec", {
    "t": ("truth",),
    "rec": ("record", FIELDS, (3, 4, 997)),
    "n": ("whole", -MOST, MOST),
    "s": ("text", 200),
    "r": ("row", "n", 20),
    "m": ("map", "rec", 0),
    "b": ("choice", ((1, "one", "t"), (999, "two", "b")), (2, 700), False),
    "a": ("choice", (), (), True),
})
LINES = [
    "make rec",
    "form a choice open",
    "struck",
    "form b choice closed",
    "arm 1 one t",
    "arm 999 two b",
    "struck 2 700",
    "form m map rec 0",
    "form n whole -1000000000000000000 1000000000000000000",
    "form r row n 20",
    "form rec record",
    "field 1 must rec must",
    "field 2 whole n whole -5",
    "field 30 yes t truth yes",
    "field 31 no t truth no",
    "field 500 none r none",
    "field 501 nomap m none",
    "field 998 text s text two  words ",
    "field 999 empty s text ",
    "struck 3 4 997",
    "form s text 200",
    "form t truth",
]
SOME_MAKES = [MAKE, ("a", {"a": ("truth",)}), ("z", {"a": ("truth",), "z": ("record", (), ()), "b": ("text", 0)})]
SOME_MAKES.extend(great_makes(41, 100))


class Shown(unittest.TestCase):
    def test_sign_by_sign(self):
        self.assertEqual(shown_make(MAKE), LINES)

    def test_small_ones(self):
        self.assertEqual(shown_make(("a", {"a": ("truth",)})), ["make a", "form a truth"])
        self.assertEqual(shown_make(("a", {"a": ("whole", 0, 0)})), ["make a", "form a whole 0 0"])
        self.assertEqual(shown_make(("a", {"a": ("whole", -7, -1)})), ["make a", "form a whole -7 -1"])
        self.assertEqual(shown_make(("a", {"a": ("record", (), ())})), ["make a", "form a record", "struck"])
        self.assertEqual(shown_make(("a", {"a": ("record", (), (5,))})), ["make a", "form a record", "struck 5"])
        self.assertEqual(shown_make(("a", {"a": ("choice", (), (1, 2), False)})),
                         ["make a", "form a choice closed", "struck 1 2"])

    def default(self, shape, d, words):
        make = ("r", {"r": ("record", ((10, "x", "of", (d,)),), ()), "of": shape})
        self.assertIn(f"field 10 x of {words}", shown_make(make))

    def test_defaults(self):
        self.default(("whole", -9, 9), 0, "whole 0")
        self.default(("whole", -9, 9), 1, "whole 1")
        self.default(("whole", -9, 9), -9, "whole -9")
        self.default(("whole", -MOST, MOST), MOST, "whole 1000000000000000000")
        self.default(("truth",), True, "truth yes")
        self.default(("truth",), False, "truth no")
        self.default(("text", 9), "", "text ")
        self.default(("text", 9), " ", "text  ")
        self.default(("text", 9), "   ", "text    ")
        self.default(("text", 9), "must", "text must")
        self.default(("text", 9), "whole 5", "text whole 5")
        self.default(("text", 9), " a  b ", "text  a  b ")
        self.default(("row", "of", 3), (), "none")
        self.default(("map", "of", 0), (), "none")

    def test_forms_by_rising_names(self):
        for order in itertools.permutations(["ab", "a", "b", "aa"]):
            lines = shown_make(("a", {name: ("truth",) for name in order}))
            self.assertEqual(lines, ["make a", "form a truth", "form aa truth", "form ab truth", "form b truth"])

    def test_told_is_a_new_list_of_texts(self):
        lines = shown_make(MAKE)
        self.assertIsInstance(lines, list)
        lines[0] = "turned"
        lines.append("more")
        self.assertEqual(shown_make(MAKE), LINES)

    def test_what_is_handed_in_stays(self):
        make = (MAKE[0], dict(MAKE[1]))
        before = list(make[1].items())
        shown_make(make)
        self.assertEqual(list(make[1].items()), before)


class Read(unittest.TestCase):
    def read(self, lines, make):
        with self.subTest(lines=lines):
            self.assertEqual(read_make(lines), make)

    def test_the_make_again(self):
        self.read(LINES, MAKE)
        for make in SOME_MAKES:
            lines = shown_make(make)
            self.read(lines, make)
            self.assertEqual(shown_make(read_make(lines)), lines)

    def test_kinds(self):
        told = read_make(list(LINES))
        self.assertIsInstance(told, tuple)
        self.assertIsInstance(told[1], dict)
        self.assertIs(is_make(told), True)
        for make in SOME_MAKES:
            self.assertIs(is_make(read_make(shown_make(make))), True)

    def test_what_is_told_is_the_askers_own(self):
        lines = list(LINES)
        told = read_make(lines)
        told[1].clear()
        self.assertEqual(lines, LINES)
        self.assertEqual(read_make(lines), MAKE)
        told = read_make(lines)
        lines[:] = ["make a", "form a truth"]
        self.assertEqual(told, MAKE)

    def test_what_need_not_be_right(self):
        truth = ("truth",)
        self.read(["make a", "form a whole 5 -5"], ("a", {"a": ("whole", 5, -5)}))
        self.read(["make b", "form a truth"], ("b", {"a": truth}))
        self.read(["make a", "form a row zz 3"], ("a", {"a": ("row", "zz", 3)}))
        self.read(["make a", "form b truth", "form a truth"], ("a", {"b": truth, "a": truth}))
        self.read(["make a", "form a truth", "form a text 3"], ("a", {"a": ("text", 3)}))
        self.read(["make a", "form a text 3", "form b truth", "form a truth"], ("a", {"a": truth, "b": truth}))
        self.read(["make a", "form a record", "field 1 x b must", "struck", "form a record", "struck 5"],
                  ("a", {"a": ("record", (), (5,))}))
        self.read(["make a", "form a record", "field 9 x b must", "field 3 x b must", "field 9 x b none", "struck 9 9 3"],
                  ("a", {"a": ("record", ((9, "x", "b", ()), (3, "x", "b", ()), (9, "x", "b", ((),))), (9, 9, 3))}))
        self.read(["make a", "form a choice open", "arm 9 x b", "arm 3 x b", "arm 3 y b", "struck 3 2 3"],
                  ("a", {"a": ("choice", ((9, "x", "b"), (3, "x", "b"), (3, "y", "b")), (3, 2, 3), True)}))
        self.read(["make a", "form a record", "field 1 x a whole 5", "field 2 y a text ", "field 3 z a truth no", "struck"],
                  ("a", {"a": ("record", ((1, "x", "a", (5,)), (2, "y", "a", ("",)), (3, "z", "a", (False,))), ())}))

    def test_how_many_there_are_is_not_looked_at(self):
        names = ["f" + letter for letter in "abcdefghijklmnopqrst"]
        self.read(["make a"] + [f"form {name} truth" for name in names], ("a", {name: ("truth",) for name in names}))
        self.read(["make a", "form a record"] + [f"field {n} x a must" for n in range(1, 21)] + ["struck"],
                  ("a", {"a": ("record", tuple((n, "x", "a", ()) for n in range(1, 21)), ())}))
        self.read(["make a", "form a choice closed"] + [f"arm {n} x a" for n in range(1, 21)] + ["struck"],
                  ("a", {"a": ("choice", tuple((n, "x", "a") for n in range(1, 21)), (), False)}))
        self.read(["make a", "form a choice closed", "struck " + " ".join(str(n) for n in range(1, 51))],
                  ("a", {"a": ("choice", (), tuple(range(1, 51)), False)}))

    def test_bounds(self):
        self.read(["make abcdefgh", "form abcdefgh whole 1000000000000000000 -1000000000000000000"],
                  ("abcdefgh", {"abcdefgh": ("whole", MOST, -MOST)}))
        for most in [0, 9, 10, 200]:
            self.read(["make a", f"form a text {most}"], ("a", {"a": ("text", most)}))
        for most in [0, 9, 10, 20]:
            self.read(["make a", f"form a row b {most}"], ("a", {"a": ("row", "b", most)}))
            self.read(["make a", f"form a map b {most}"], ("a", {"a": ("map", "b", most)}))
        for number in [1, 9, 10, 999]:
            self.read(["make a", "form a choice open", f"arm {number} abcdefgh abcdefgh", f"struck {number}"],
                      ("a", {"a": ("choice", ((number, "abcdefgh", "abcdefgh"),), (number,), True)}))

    def test_defaults(self):
        defaults = {"must": (), "none": ((),), "truth yes": (True,), "truth no": (False,), "whole 0": (0,),
                    "whole -1": (-1,), f"whole {MOST}": (MOST,), f"whole -{MOST}": (-MOST,), "text ": ("",),
                    "text  ": (" ",), "text    ": ("   ",), "text must": ("must",), "text  a  b ": (" a  b ",),
                    "text whole 5": ("whole 5",), "text " + "x" * 200: ("x" * 200,), "text " + ALL_SIGNS: (ALL_SIGNS,),
                    "text " + " " * 200: (" " * 200,)}
        for words, default in defaults.items():
            told = read_make(["make a", "form a record", f"field 999 abcdefgh b {words}", "struck"])
            self.assertEqual(told, ("a", {"a": ("record", ((999, "abcdefgh", "b", default),), ())}))
            for thing in told[1]["a"][1][0][3]:
                self.assertIs(type(thing), type(default[0]))

    def test_names_like_the_words(self):
        lines = ["make make", "form form record", "field 1 field field text field", "struck 7", "form struck choice open",
                 "arm 1 arm arm", "struck", "form text text 3", "form open truth"]
        self.read(lines, ("make", {
            "form": ("record", ((1, "field", "field", ("field",)),), (7,)),
            "struck": ("choice", ((1, "arm", "arm"),), (), True), "text": ("text", 3), "open": ("truth",)}))


class Refused(unittest.TestCase):
    def refused(self, lines, at):
        before = copy.deepcopy(lines)
        with self.subTest(lines=lines):
            with self.assertRaises(BadText) as caught:
                read_make(lines)
            self.assertEqual(caught.exception.at, at)
            self.assertEqual(lines, before)

    def test_no_lines(self):
        self.refused([], 0)

    def test_more_have_to_come(self):
        self.refused(["make a"], 1)
        self.refused(["make a", "form a record"], 2)
        self.refused(["make a", "form a choice open"], 2)
        self.refused(["make a", "form a record", "field 1 x a must"], 3)
        self.refused(["make a", "form a choice closed", "arm 1 x a", "arm 2 x a"], 4)
        self.refused(["make a", "form a truth", "form b record"], 3)
        for end in range(len(LINES)):
            if end > 1 and LINES[end].startswith("form"):
                self.assertEqual(read_make(LINES[:end])[0], "rec")
            else:
                self.refused(LINES[:end], end)

    def test_make_first(self):
        for line in ["", " ", "make", "make ", "make  a", " make a", "make a ", "make a b", "Make a", "make A", "make a1",
                     "make abcdefghi", "makea", "make -", "form a truth", "struck", "field 1 a a must", "arm 1 a a"]:
            self.refused([line], 0)
            self.refused([line, "form a truth"], 0)
            self.refused([line, "nothing right"], 0)
        self.refused(["make a", "make a", "form a truth"], 1)
        self.refused(["make a", "form a truth", "make a"], 2)
        self.refused(["make a", "form a record", "make a", "struck"], 2)

    def test_where_lines_stand(self):
        field = "field 1 x a must"
        arm = "arm 1 x a"
        self.refused(["make a", "struck"], 1)
        self.refused(["make a", field], 1)
        self.refused(["make a", arm], 1)
        for form in ["form a truth", "form a text 3", "form a whole 0 1", "form a row a 1", "form a map a 1"]:
            self.refused(["make a", form, "struck"], 2)
            self.refused(["make a", form, field, "struck"], 2)
            self.refused(["make a", form, arm, "struck"], 2)
        self.refused(["make a", "form a record", arm, "struck"], 2)
        self.refused(["make a", "form a record", field, arm, "struck"], 3)
        self.refused(["make a", "form a choice open", field, "struck"], 2)
        self.refused(["make a", "form a choice closed", arm, field, "struck"], 3)
        self.refused(["make a", "form a record", "form b truth"], 2)
        self.refused(["make a", "form a record", field, "form b truth"], 3)
        self.refused(["make a", "form a choice open", "form b truth"], 2)
        self.refused(["make a", "form a record", "struck", field], 3)
        self.refused(["make a", "form a record", "struck", "struck"], 3)
        self.refused(["make a", "form a choice open", "struck", arm], 3)

    def test_the_first_wrong_line_is_told(self):
        self.refused(["make a", "form a truth", "wrong", "wrong"], 2)
        self.refused(["make a", "form a record", "wrong"], 2)
        self.refused(["make a", "wrong", "form a record"], 1)
        self.refused(["make a", "form a record", "field 1 x a must", "wrong", "struck", "wrong"], 3)
        for place in range(len(LINES)):
            for wrong in ["", "wrong", LINES[place] + "\\ ", " " + LINES[place], LINES[place].upper()]:
                if wrong.startswith("field") and " text " in wrong:
                    continue
                self.refused(LINES[:place] + [wrong] + LINES[place + 1:], place)
                self.refused(LINES[:place] + [wrong], place)

    def form_lines(self):
        return {
            "form": ["form", "form ", "form a", "form a ", "form  a truth", "form a  truth", "form a truth ", " form a truth",
                     "form a truth truth", "form a truth 1", "form A truth", "form abcdefghi truth", "form a1 truth",
                     "form a TRUTH", "form a Truth", "Form a truth", "form truth", "forma truth", "form a other", "form a rec",
                     "form a record ", "form a record open", "form a  record", "form a choice", "form a choice ",
                     "form a choice  open", "form a choice Open", "form a choice opened", "form a choice open ",
                     "form a choice open closed", "form a choice yes", "form a choice True", "form a record 1"],
            "whole": ["form a whole", "form a whole 1", "form a whole 1 ", "form a whole 1 2 ", "form a whole 1 2 3",
                      "form a whole  1 2", "form a whole 1  2", "form a whole a 2", "form a whole 1 b",
                      "form a whole 1000000000000000001 1", "form a whole 1 1000000000000000001",
                      "form a whole -1000000000000000001 1", "form a whole 0 -1000000000000000001", "form a whole 1,2",
                      "form a whole 1 " + "9" * 40, "form a whole 1.0 2", "form a whole 0 1_0"],
            "text": ["form a text", "form a text ", "form a text 201", "form a text -1", "form a text 1 2", "form a text 3 ",
                     "form a text a", "form a text  3", "form a text 1000"],
            "row": ["form a row", "form a row b", "form a row b ", "form a row 3", "form a row 3 b", "form a row b 21",
                    "form a row b -1", "form a row B 3", "form a row abcdefghi 3", "form a row  b 3", "form a row b  3",
                    "form a row b 3 ", "form a row b 3 3", "form a row b b", "form a row b 200", "form a rows b 3",
                    "form a truth b 3", "form a text b 3", "form a record b 3", "form a choice b 3", "form a whole b 3"],
        }

    def test_wrong_forms(self):
        lines = self.form_lines()
        lines["map"] = [line.replace(" row", " map") for line in lines["row"]]
        for line in [line for some in lines.values() for line in some]:
            self.refused(["make a", line], 1)
            self.refused(["make a", line, "struck"], 1)
            self.refused(["make a", "form b truth", line], 2)

    def test_wrong_numbers(self):
        for number in ["0", "-1", "1000", "01", "001", "+1", "1.", "1e2", "a", "", " 1", "-", "--1", "1-", "9" * 40, "1_0",
                       "0x1", "-0", "00", "1000000000000000000"]:
            self.refused(["make a", "form a record", f"field {number} x b must", "struck"], 2)
            self.refused(["make a", "form a choice open", f"arm {number} x b", "struck"], 2)
            self.refused(["make a", "form a record", f"struck {number}"], 2)
            self.refused(["make a", "form a record", f"struck 5 {number}"], 2)
            self.refused(["make a", "form a choice open", f"struck {number} 5"], 2)

    def test_wrong_writing_of_numbers(self):
        for number in ["00", "01", "007", "+0", "+1", "-0", "-01", "-00", "--1", "-", "+", "", "1-", "1.", "0.", "1e1", "0x1",
                       "1_0", "a", "one", " 1", "1 ", "\\", "1,"]:
            self.refused(["make a", f"form a whole {number} 5"], 1)
            self.refused(["make a", f"form a whole -5 {number}"], 1)
            self.refused(["make a", f"form a text {number}"], 1)
            self.refused(["make a", f"form a row b {number}"], 1)
            self.refused(["make a", f"form a map b {number}"], 1)
            self.refused(["make a", "form a record", f"field 1 x b whole {number}", "struck"], 2)

    def test_wrong_names(self):
        for name in ["", "A", "Ab", "aB", "a1", "abcdefghi", "a-b", "1", "a.", "_"]:
            self.refused([f"make {name}", "form a truth"], 0)
            self.refused(["make a", f"form {name} truth"], 1)
            self.refused(["make a", f"form {name} record", "struck"], 1)
            self.refused(["make a", f"form a row {name} 3"], 1)
            self.refused(["make a", f"form a map {name} 3"], 1)
            self.refused(["make a", "form a record", f"field 1 {name} b must", "struck"], 2)
            self.refused(["make a", "form a record", f"field 1 x {name} must", "struck"], 2)
            self.refused(["make a", "form a choice open", f"arm 1 {name} b", "struck"], 2)
            self.refused(["make a", "form a choice open", f"arm 1 x {name}", "struck"], 2)

    def test_wrong_fields(self):
        for line in ["field", "field ", "field 1", "field 1 x", "field 1 x b", "field 1 x b ", "field  1 x b must",
                     "field 1  x b must", "field 1 x  b must", "field 1 x b  must", " field 1 x b must", "Field 1 x b must",
                     "field x 1 b must", "fields 1 x b must", "field 1 x must", "field1 x b must"]:
            self.refused(["make a", "form a record", line, "struck"], 2)

    def test_wrong_defaults(self):
        for words in ["", "must ", "must must", "Must", "may", "none ", "none none", "None", "()", "whole", "whole ",
                      "whole 1 ", "whole  1", "whole 1 2", "whole a", "whole 1000000000000000001", "whole " + "9" * 40,
                      "whole -1000000000000000001", "truth", "truth ", "truth yes ", "truth  yes", "truth Yes", "truth true",
                      "truth 1", "truth yes no", "truth maybe", "text", "Text a", "text" + "a", "text " + "x" * 201,
                      "text " + " " * 201, "row", "map ", "yes", "no", "5", "0"]:
            self.refused(["make a", "form a record", f"field 1 x b {words}", "struck"], 2)

    def test_wrong_arms(self):
        for line in ["arm", "arm ", "arm 1", "arm 1 x", "arm 1 x ", "arm  1 x b", "arm 1  x b", "arm 1 x  b", "arm 1 x b ",
                     " arm 1 x b", "Arm 1 x b", "arm 1 x b must", "arm 1 x b b", "arm x 1 b", "arms 1 x b", "arm 1 b"]:
            self.refused(["make a", "form a choice closed", line, "struck"], 2)

    def test_wrong_struck_lines(self):
        for line in ["", "struck ", " struck", "struck  1", "struck 1 ", "struck 1  2", "Struck", "STRUCK", "strucks",
                     "struck 1,2", "struck one", "struck1", "struck 1 2 1000", "struck struck"]:
            self.refused(["make a", "form a record", line], 2)
            self.refused(["make a", "form a choice open", line], 2)
            self.refused(["make a", "form a choice open", "arm 1 x b", line], 3)


if __name__ == "__main__":
    unittest.main()
