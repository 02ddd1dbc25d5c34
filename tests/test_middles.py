import unittest
from fractions import Fraction

from fewcolours.colours import apart
from fewcolours.middles import as_middle, far_of, middle_of, rounded, spread_of
from tests.samples import FAR, as_pair, dice, plain_far, some_colour, some_fraction, some_rows


def plain_middle(rows):
    total = sum(count for colour, count in rows)
    wide = len(rows[0][0])
    return [Fraction(sum(count * colour[at] for colour, count in rows), total) for at in range(wide)]


class MiddleOf(unittest.TestCase):
    def test_told_by_hand(self):
        self.assertEqual(middle_of([((0, 4), 1), ((1, 4), 2)]), ((2, 3), (4, 1)))
        self.assertEqual(middle_of([((0,), 500), ((999,), 500)]), ((999, 2),))
        self.assertEqual(middle_of([((0, 0, 0), 7)]), ((0, 1), (0, 1), (0, 1)))

    def test_of_one_row(self):
        rng = dice(21)
        for wide in range(1, 6):
            for count in (1, 2, 1000):
                colour = some_colour(rng, wide)
                self.assertEqual(middle_of([(colour, count)]), as_middle(colour))
                self.assertEqual(spread_of([(colour, count)]), (0, 1))

    def test_middle_and_spread_of_many(self):
        rng = dice(22)
        for turn in range(120):
            rows = some_rows(rng, rng.randint(1, 5), rng.choice((2, 3, 10, 60)), 0, rng.choice((3, 999)))
            copied = list(rows)
            middle = plain_middle(rows)
            self.assertEqual(middle_of(rows), tuple(as_pair(fraction) for fraction in middle))
            spread = sum(count * plain_far(colour, middle) for colour, count in rows)
            self.assertEqual(spread_of(rows), as_pair(spread))
            self.assertEqual(rows, copied)

    def test_sixty_rows(self):
        rows = [((7 * number, number % 3, 5), number * 17 % 1000 + 1) for number in range(60)]
        middle = plain_middle(rows)
        self.assertEqual(middle_of(rows), tuple(as_pair(fraction) for fraction in middle))
        spread = sum(count * plain_far(colour, middle) for colour, count in rows)
        self.assertEqual(spread_of(rows), as_pair(spread))


class SpreadOf(unittest.TestCase):
    def test_told_by_hand(self):
        self.assertEqual(spread_of([((0,), 1), ((1,), 1)]), (1, 2))
        self.assertEqual(spread_of([((0,), 1), ((3,), 2)]), (6, 1))
        self.assertEqual(spread_of([((0, 0), 1), ((1, 2), 1)]), (5, 2))
        self.assertEqual(spread_of([((0,), 1000), ((999,), 1000)]), (998001 * 500, 1))


class FarOf(unittest.TestCase):
    def test_told_by_hand(self):
        self.assertEqual(far_of((1,), ((1, 2),)), (1, 4))
        self.assertEqual(far_of((1, 2), ((1, 2), (5, 2))), (1, 2))
        self.assertEqual(far_of((1, 0), ((-1, 2), (-1, 3))), (85, 36))
        self.assertEqual(far_of((3,), ((3, 1),)), (0, 1))

    def test_of_a_colour_as_a_middle(self):
        rng = dice(23)
        for turn in range(100):
            wide = rng.randint(1, 5)
            one, other = some_colour(rng, wide), some_colour(rng, wide, -FAR, FAR)
            self.assertEqual(far_of(one, as_middle(other)), (apart(one, other), 1))
            self.assertEqual(far_of(other, as_middle(one)), (apart(one, other), 1))

    def test_against_fractions(self):
        rng = dice(24)
        for turn in range(200):
            wide = rng.randint(1, 5)
            colour = some_colour(rng, wide, -FAR, FAR)
            middle = [some_fraction(rng) for place in range(wide)]
            told = far_of(colour, tuple(as_pair(fraction) for fraction in middle))
            self.assertEqual(told, as_pair(plain_far(colour, middle)))


class Rounded(unittest.TestCase):
    def test_of_two_the_greater_one(self):
        for top, told in ((1, 1), (3, 2), (5, 3), (-1, 0), (-3, -1), (-5, -2), (1997, 999)):
            self.assertEqual(rounded(((top, 2),)), (told,))

    def test_beside_a_half(self):
        for top, bottom, told in ((49, 100, 0), (51, 100, 1), (-49, 100, 0), (-51, 100, -1), (-149, 100, -1),
                                  (-151, 100, -2), (1, 3, 0), (2, 3, 1), (-1, 3, 0), (-2, 3, -1)):
            self.assertEqual(rounded(((top, bottom),)), (told,))
        big = 10 ** 39
        for whole in (-2, -1, 0, 1):
            self.assertEqual(rounded(((2 * whole * big + big - 1, 2 * big),)), (whole,))
            self.assertEqual(rounded(((2 * whole * big + big + 1, 2 * big),)), (whole + 1,))

    def test_place_by_place(self):
        self.assertEqual(rounded(((1, 2), (-1, 2), (7, 1), (10, 3), (0, 1))), (1, 0, 7, 3, 0))

    def test_against_fractions(self):
        rng = dice(25)
        for turn in range(300):
            fraction = Fraction(rng.randint(-60, 60), rng.randint(1, 12))
            near = min(range(-62, 63), key=lambda number: (abs(number - fraction), -number))
            self.assertEqual(rounded((as_pair(fraction),)), (near,))


class AsMiddle(unittest.TestCase):
    def test_told_by_hand(self):
        self.assertEqual(as_middle((0, 5, 999)), ((0, 1), (5, 1), (999, 1)))

    def test_and_back(self):
        rng = dice(26)
        for wide in range(1, 6):
            colour = some_colour(rng, wide, -FAR, FAR)
            self.assertEqual(rounded(as_middle(colour)), colour)


if __name__ == "__main__":
    unittest.main()
