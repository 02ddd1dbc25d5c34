import unittest

from fewcolours.colours import apart
from fewcolours.looking import in_turn, nearest, nearest_few, nearest_middle, within
from fewcolours.middles import as_middle
from tests.samples import FAR, as_pair, dice, plain_far, some_colour, some_colours, some_fraction


def plain_turn(palette, colour):
    """All numbers, each time the least of those left, found anew."""
    left, turn = list(range(len(palette))), []
    while left:
        first = left[0]
        for number in left:
            if apart(palette[number], colour) < apart(palette[first], colour):
                first = number
        left.remove(first)
        turn.append(first)
    return turn


def some_questions(seed, turns):
    """Palettes, with many ties and alike colours among them, and colours asked for, near and far."""
    rng = dice(seed)
    for turn in range(turns):
        wide = rng.randint(1, 5)
        high = rng.choice((1, 3, 20, 999))
        palette = some_colours(rng, wide, rng.choice((1, 2, 5, 20, 60)), 0, high)
        far = rng.choice((high, FAR))
        yield palette, some_colour(rng, wide, -far, far)


class Nearest(unittest.TestCase):
    def test_told_by_hand(self):
        palette = [(0, 0), (9, 9), (5, 5)]
        self.assertEqual(nearest(palette, (6, 7)), 2)
        self.assertEqual(nearest(palette, (9, 8)), 1)
        self.assertEqual(nearest(palette, (-1, 2)), 0)
        self.assertEqual(nearest([(5,)], (FAR,)), 0)

    def test_ties_go_to_the_least_number(self):
        self.assertEqual(nearest([(0,), (2,)], (1,)), 0)
        self.assertEqual(nearest([(2,), (0,)], (1,)), 0)
        self.assertEqual(nearest([(9,), (2,), (0,)], (1,)), 1)
        self.assertEqual(nearest([(3, 4), (5, 0), (0, 5), (4, 3)], (0, 0)), 0)

    def test_alike_colours(self):
        self.assertEqual(nearest([(7,), (4,), (4,), (4,)], (4,)), 1)
        self.assertEqual(nearest([(4,)] * 60, (FAR,)), 0)

    def test_far_off(self):
        self.assertEqual(nearest([(998,), (999,), (0,)], (FAR,)), 1)
        self.assertEqual(nearest([(998,), (999,), (1,), (0,)], (-FAR,)), 3)

    def test_against_plain_turn(self):
        for palette, colour in some_questions(31, 200):
            copied = list(palette)
            self.assertEqual(nearest(palette, colour), plain_turn(palette, colour)[0])
            self.assertEqual(palette, copied)


class InTurn(unittest.TestCase):
    def test_told_by_hand(self):
        self.assertEqual(in_turn([(5,), (0,), (3,), (0,), (1,)], (1,)), [4, 1, 3, 2, 0])
        self.assertEqual(in_turn([(5,)], (1,)), [0])

    def test_equal_ones_by_numbers(self):
        self.assertEqual(in_turn([(2,), (0,), (2,), (0,), (1,)], (1,)), [4, 0, 1, 2, 3])

    def test_against_plain_turn(self):
        for palette, colour in some_questions(32, 120):
            copied = list(palette)
            self.assertEqual(in_turn(palette, colour), plain_turn(palette, colour))
            self.assertEqual(palette, copied)


class NearestFew(unittest.TestCase):
    def test_none_some_all_and_more(self):
        palette = [(5,), (0,), (3,), (0,)]
        for many, told in ((0, []), (1, [1]), (2, [1, 3]), (3, [1, 3, 2]), (4, [1, 3, 2, 0]),
                           (5, [1, 3, 2, 0]), (999999999, [1, 3, 2, 0])):
            self.assertEqual(nearest_few(palette, (1,), many), told)

    def test_against_plain_turn(self):
        for palette, colour in some_questions(33, 60):
            copied = list(palette)
            turn = plain_turn(palette, colour)
            for many in {0, 1, len(palette) // 2, len(palette) - 1, len(palette), len(palette) + 1}:
                self.assertEqual(nearest_few(palette, colour, many), turn[:many])
            self.assertEqual(palette, copied)


class Within(unittest.TestCase):
    def test_just_as_far_one_less_one_more(self):
        palette = [(5, 0), (0, 0), (3, 4), (0, 5), (9, 9)]
        self.assertEqual(within(palette, (0, 0), 25), [0, 1, 2, 3])
        self.assertEqual(within(palette, (0, 0), 24), [1])
        self.assertEqual(within(palette, (0, 0), 26), [0, 1, 2, 3])
        self.assertEqual(within(palette, (0, 0), 161), [0, 1, 2, 3])
        self.assertEqual(within(palette, (0, 0), 162), [0, 1, 2, 3, 4])

    def test_nought(self):
        self.assertEqual(within([(4,), (5,), (4,)], (4,), 0), [0, 2])
        self.assertEqual(within([(4,), (5,), (4,)], (3,), 0), [])

    def test_against_each_number(self):
        for palette, colour in some_questions(34, 100):
            copied = list(palette)
            some = apart(palette[len(palette) // 2], colour)
            for square in {0, max(some - 1, 0), some, some + 1, 999999999}:
                told = [number for number in range(len(palette)) if not apart(palette[number], colour) > square]
                self.assertEqual(within(palette, colour, square), told)
            self.assertEqual(palette, copied)


class NearestMiddle(unittest.TestCase):
    def test_told_by_hand(self):
        self.assertEqual(nearest_middle([((1, 2),), ((7, 2),), ((5, 3),)], (2,)), 2)
        self.assertEqual(nearest_middle([((-1, 2), (0, 1))], (5, 5)), 0)

    def test_ties_go_to_the_least_number(self):
        self.assertEqual(nearest_middle([((5, 2),), ((3, 2),)], (2,)), 0)
        self.assertEqual(nearest_middle([((3, 2),), ((5, 2),)], (2,)), 0)
        self.assertEqual(nearest_middle([((9, 1),), ((5, 2),), ((3, 2),), ((5, 2),)], (2,)), 1)

    def test_middles_that_differ_by_very_little(self):
        big = 10 ** 39
        nearer, farther = ((big + 1, big + 2),), ((big, big + 1),)
        self.assertEqual(nearest_middle([farther, nearer], (1,)), 1)
        self.assertEqual(nearest_middle([nearer, farther], (1,)), 0)
        self.assertEqual(nearest_middle([nearer, farther], (0,)), 1)
        self.assertEqual(nearest_middle([farther, nearer], (0,)), 0)

    def test_of_colours_as_middles_the_same_as_nearest(self):
        for palette, colour in some_questions(35, 60):
            palette = palette[:12]
            middles = [as_middle(one) for one in palette]
            copied = list(middles)
            self.assertEqual(nearest_middle(middles, colour), nearest(palette, colour))
            self.assertEqual(middles, copied)

    def test_against_fractions(self):
        rng = dice(36)
        for turn in range(100):
            wide = rng.randint(1, 3)
            middles = [tuple(some_fraction(rng) for place in range(wide)) for number in range(rng.randint(1, 12))]
            colour = some_colour(rng, wide, -FAR, FAR)
            fars = [plain_far(colour, middle) for middle in middles]
            pairs = [tuple(as_pair(fraction) for fraction in middle) for middle in middles]
            self.assertEqual(nearest_middle(pairs, colour), fars.index(min(fars)))


class ToldLists(unittest.TestCase):
    def test_they_are_the_askers_own(self):
        palette = [(5,), (0,), (3,), (0,)]
        asks = [lambda: in_turn(palette, (1,)), lambda: nearest_few(palette, (1,), 3),
                lambda: nearest_few(palette, (1,), 9), lambda: nearest_few(palette, (1,), 0),
                lambda: within(palette, (1,), 4), lambda: within(palette, (1,), 999)]
        for ask in asks:
            first = ask()
            self.assertIsInstance(first, list)
            copied = list(first)
            first.append(77)
            first.reverse()
            self.assertEqual(ask(), copied)
            self.assertEqual(palette, [(5,), (0,), (3,), (0,)])


if __name__ == "__main__":
    unittest.main()
