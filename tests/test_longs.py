"""Point 11: longs."""

import unittest

from makes.longs import long_of
from tests.samples import long_plainly

BY_HAND = [
    (0, (0,)),
    (1, (1,)),
    (2, (2,)),
    (126, (126,)),
    (127, (127,)),
    (128, (128, 1)),
    (129, (129, 1)),
    (130, (130, 1)),
    (255, (255, 1)),
    (256, (128, 2)),
    (300, (172, 2)),
    (999, (231, 7)),
    (16383, (255, 127)),
    (16384, (128, 128, 1)),
    (16385, (129, 128, 1)),
    (16512, (128, 129, 1)),
    (10 ** 6, (192, 132, 61)),
    (2 * 10 ** 18, (128, 128, 160, 246, 244, 172, 219, 224, 27)),
]


def number_of(figures):
    return sum((figure % 128) * 128 ** place for place, figure in enumerate(figures))


class Longs(unittest.TestCase):
    def held(self, n):
        told = long_of(n)
        with self.subTest(n=n):
            self.assertIsInstance(told, tuple)
            self.assertEqual(number_of(told), n)
            self.assertTrue(all(128 <= figure <= 255 for figure in told[:-1]))
            self.assertTrue(0 <= told[-1] <= 127)
            self.assertTrue(told[-1] > 0 or told == (0,))
            self.assertEqual(told, long_plainly(n))

    def test_by_hand(self):
        for n, figures in BY_HAND:
            with self.subTest(n=n):
                self.assertEqual(long_of(n), figures)

    def test_small_ones(self):
        for n in range(40000):
            self.held(n)

    def test_round_the_powers(self):
        for power in range(1, 19):
            for n in range(128 ** power - 3, 128 ** power + 4):
                self.held(n)
            self.held(5 * 128 ** power)
            self.held(128 ** power * 127)

    def test_far_beyond(self):
        for n in [10 ** 18, 2 * 10 ** 18, 10 ** 30 + 7, 10 ** 40 - 1]:
            self.held(n)


if __name__ == "__main__":
    unittest.main()
