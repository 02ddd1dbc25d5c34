import itertools
import unittest
from fractions import Fraction
from math import gcd

from fewcolours.parts import before, part, plus, times
from tests.samples import as_pair, dice, some_fraction, some_number

# Forty figures.
BIG = 10 ** 40 - 1


class Part(unittest.TestCase):
    def test_told_by_hand(self):
        for top, bottom, told in (
            (1, 2, (1, 2)), (2, 4, (1, 2)), (6, 3, (2, 1)), (6, 4, (3, 2)), (7, 7, (1, 1)), (5, 1, (5, 1)),
            (-1, 2, (-1, 2)), (1, -2, (-1, 2)), (-1, -2, (1, 2)), (-6, 4, (-3, 2)), (6, -4, (-3, 2)),
            (-6, -4, (3, 2)), (4, -1, (-4, 1)), (-7, -7, (1, 1)), (10, -10, (-1, 1)),
        ):
            self.assertEqual(part(top, bottom), told)

    def test_nought(self):
        for bottom in (1, -1, 2, -2, 999, BIG, -BIG):
            self.assertEqual(part(0, bottom), (0, 1))

    def test_lowest_terms_and_bottom_above_nought(self):
        for top, bottom in itertools.product(range(-30, 31), range(-30, 31)):
            if bottom != 0:
                told = part(top, bottom)
                self.assertIsInstance(told, tuple)
                self.assertEqual(gcd(*told), 1)
                self.assertGreater(told[1], 0)
                self.assertEqual(told[0] * bottom, told[1] * top)

    def test_of_up_to_forty_figures(self):
        rng = dice(11)
        for turn in range(500):
            top, bottom, more = some_number(rng), some_number(rng), some_number(rng)
            if bottom != 0 and more != 0:
                self.assertEqual(part(top, bottom), as_pair(Fraction(top, bottom)))
                self.assertEqual(part(top * more, bottom * more), as_pair(Fraction(top, bottom)))
        self.assertEqual(part(BIG, BIG), (1, 1))
        self.assertEqual(part(BIG, -BIG), (-1, 1))
        self.assertEqual(part(BIG, BIG - 1), (BIG, BIG - 1))


class PlusTimesBefore(unittest.TestCase):
    def test_told_by_hand(self):
        self.assertEqual(plus((1, 2), (1, 3)), (5, 6))
        self.assertEqual(plus((1, 6), (1, 3)), (1, 2))
        self.assertEqual(plus((1, 2), (-1, 2)), (0, 1))
        self.assertEqual(plus((0, 1), (-3, 4)), (-3, 4))
        self.assertEqual(times((2, 3), (3, 4)), (1, 2))
        self.assertEqual(times((-2, 3), (3, 2)), (-1, 1))
        self.assertEqual(times((-2, 3), (-1, 5)), (2, 15))
        self.assertEqual(times((0, 1), (-7, 5)), (0, 1))
        self.assertIs(before((1, 3), (1, 2)), True)
        self.assertIs(before((1, 2), (1, 3)), False)
        self.assertIs(before((-1, 2), (-1, 3)), True)
        self.assertIs(before((-1, 3), (-1, 2)), False)
        self.assertIs(before((-1, 3), (0, 1)), True)

    def test_against_fractions(self):
        rng = dice(12)
        for turn in range(500):
            one, other = some_fraction(rng), some_fraction(rng)
            a, b = as_pair(one), as_pair(other)
            self.assertEqual(plus(a, b), as_pair(one + other))
            self.assertEqual(plus(b, a), as_pair(one + other))
            self.assertEqual(plus(a, as_pair(-one)), (0, 1))
            self.assertEqual(times(a, b), as_pair(one * other))
            self.assertEqual(times(b, a), as_pair(one * other))
            self.assertIs(before(a, b), one < other)
            self.assertIs(before(b, a), other < one)

    def test_before_of_one_and_itself(self):
        for one in ((0, 1), (1, 2), (-5, 3), (BIG, BIG - 1), (-BIG, BIG - 1)):
            self.assertIs(before(one, one), False)

    def test_before_of_two_that_differ_by_very_little(self):
        for sign in (1, -1):
            less, more = sorted((Fraction(sign * (BIG - 1), BIG), Fraction(sign * (BIG - 2), BIG - 1)))
            self.assertIs(before(as_pair(less), as_pair(more)), True)
            self.assertIs(before(as_pair(more), as_pair(less)), False)
        self.assertIs(before((1, BIG), (1, BIG - 1)), True)
        self.assertIs(before((-1, BIG), (-1, BIG - 1)), False)
        self.assertIs(before((0, 1), (1, BIG)), True)
        self.assertIs(before((1, BIG), (0, 1)), False)


if __name__ == "__main__":
    unittest.main()
