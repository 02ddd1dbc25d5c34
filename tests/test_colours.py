import unittest

from fewcolours.colours import apart, is_colour
from tests.samples import FAR, NEITHER, deep, dice, some_colour


class IsColour(unittest.TestCase):
    def test_true_of_each_width(self):
        for wide in range(1, 6):
            self.assertIs(is_colour((7,) * wide, wide), True)

    def test_whatever_the_numbers(self):
        for number in (0, 999, 1000, -1, -FAR, FAR, 10 ** 40, -10 ** 40):
            self.assertIs(is_colour((number,), 1), True)
            self.assertIs(is_colour((3, number, 4), 3), True)

    def test_another_width(self):
        for wide in range(1, 6):
            for other in range(0, 9):
                self.assertIs(is_colour((1,) * other, wide), other == wide)

    def test_true_and_false_are_no_numbers(self):
        for wide in range(1, 6):
            for place in range(wide):
                for wrong in (True, False, None, "1", "", (), (1,), [1], [], deep(19)):
                    thing = [1] * wide
                    thing[place] = wrong
                    self.assertIs(is_colour(tuple(thing), wide), False)

    def test_lists_and_texts_are_no_tuples(self):
        for wide in range(1, 6):
            self.assertIs(is_colour([1] * wide, wide), False)
            self.assertIs(is_colour("1" * wide, wide), False)

    def test_false_and_no_error_of_anything_else(self):
        for thing in NEITHER:
            for wide in range(1, 6):
                self.assertIs(is_colour(thing, wide), False, (thing, wide))

    def test_a_box_is_no_colour(self):
        self.assertIs(is_colour(((1, 2), (3, 4)), 2), False)


class Apart(unittest.TestCase):
    def test_told_by_hand(self):
        self.assertEqual(apart((5,), (2,)), 9)
        self.assertEqual(apart((1, 2), (4, 6)), 25)
        self.assertEqual(apart((0, 0, 0), (1, 2, 3)), 14)
        self.assertEqual(apart((0, 999, 0, 999, 5), (999, 0, 999, 0, 5)), 4 * 998001)

    def test_each_place_counts(self):
        for wide in range(1, 6):
            for place in range(wide):
                moved = tuple(10 if at == place else 3 for at in range(wide))
                self.assertEqual(apart((3,) * wide, moved), 49)

    def test_either_way_about(self):
        rng = dice(1)
        for turn in range(300):
            wide = rng.randint(1, 5)
            one = some_colour(rng, wide)
            other = some_colour(rng, wide, -FAR, FAR)
            square = 0
            for place in range(wide):
                square += (one[place] - other[place]) * (one[place] - other[place])
            self.assertEqual(apart(one, other), square)
            self.assertEqual(apart(other, one), square)

    def test_nought_of_one_and_the_same(self):
        rng = dice(2)
        for wide in range(1, 6):
            colour = some_colour(rng, wide, -FAR, FAR)
            self.assertEqual(apart(colour, tuple(list(colour))), 0)

    def test_far_off(self):
        self.assertEqual(apart((FAR,) * 5, (-FAR,) * 5), 5 * 4 * 10 ** 12)
        self.assertEqual(apart((-FAR,), (999,)), 1000999 ** 2)


if __name__ == "__main__":
    unittest.main()
