"""Point 2: the refusals."""

import unittest

from makes import errors
from makes.errors import BadByte, BadDeed, BadItem, BadText, MakeError, NoFile, NoMove, NoPlace, NoRow, NoTable, NoValue

REFUSALS = [BadByte, NoPlace, BadText, BadItem, BadDeed, NoTable, NoMove, NoFile, NoValue, NoRow]


class Refusals(unittest.TestCase):
    def test_fields(self):
        self.assertEqual(BadByte(7).at, 7)
        self.assertEqual(NoPlace(0).step, 0)
        self.assertEqual(BadText(3).at, 3)
        self.assertEqual(BadItem((("at", 1), ("key", "a"))).path, (("at", 1), ("key", "a")))
        self.assertEqual(BadItem(()).path, ())
        self.assertEqual(BadDeed("form").word, "form")
        self.assertEqual(NoMove("fault").word, "fault")
        self.assertEqual(NoFile(12).number, 12)
        table = NoTable("a", "b", "read")
        self.assertEqual((table.one, table.other, table.word), ("a", "b", "read"))

    def test_each_object_has_its_own_fields(self):
        first = BadByte(1)
        second = BadByte(2)
        self.assertEqual((first.at, second.at), (1, 2))

    def test_made_of_a_text(self):
        self.assertIsInstance(NoValue("no own one"), MakeError)
        self.assertIsInstance(NoRow("no such row"), MakeError)

    def test_each_stands_straight_under_the_base(self):
        self.assertEqual(MakeError.__bases__, (ValueError,))
        for refusal in REFUSALS:
            with self.subTest(refusal=refusal.__name__):
                self.assertEqual(refusal.__bases__, (MakeError,))

    def test_none_stands_under_another(self):
        self.assertEqual(len(set(REFUSALS)), 10)
        for one in REFUSALS:
            for other in REFUSALS:
                self.assertEqual(issubclass(one, other), one == other)

    def test_names(self):
        for refusal in REFUSALS + [MakeError]:
            self.assertEqual(getattr(errors, refusal.__name__), refusal)

    def test_raised_and_taken_by_the_base(self):
        made = [BadByte(1), NoPlace(1), BadText(1), BadItem(()), BadDeed("deed"), NoTable("", "", "shape"),
                NoMove("move"), NoFile(1), NoValue("v"), NoRow("r")]
        for refusal in made:
            with self.assertRaises(MakeError) as caught:
                raise refusal
            self.assertIs(caught.exception, refusal)


if __name__ == "__main__":
    unittest.main()
