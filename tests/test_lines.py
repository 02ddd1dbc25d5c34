import itertools
import unittest

from fewcolours.lines import by_table, line_table
from fewcolours.looking import nearest
from tests.samples import FAR, dice, some_colours


def changes(palette, low, high):
    """The rows that there must be at least: low's, and one wherever another number is told than one ahead."""
    rows = [(low, nearest(palette, (low,)))]
    for n in range(low + 1, high + 1):
        number = nearest(palette, (n,))
        if number != rows[-1][1]:
            rows.append((n, number))
    return tuple(rows)


class LineTable(unittest.TestCase):
    def test_told_by_hand(self):
        self.assertEqual(line_table([(10,), (0,)], 0, 20), ((0, 1), (5, 0)))
        self.assertEqual(line_table([(0,), (10,)], 0, 20), ((0, 0), (6, 1)))
        self.assertEqual(line_table([(0,), (9,)], 0, 20), ((0, 0), (5, 1)))
        self.assertEqual(line_table([(9,), (0,)], 0, 20), ((0, 1), (5, 0)))
        self.assertEqual(line_table([(5,)], -3, 8), ((-3, 0),))

    def test_alike_colours(self):
        self.assertEqual(line_table([(5,), (5,), (5,)], 0, 9), ((0, 0),))
        self.assertEqual(line_table([(8,), (2,), (8,), (2,)], 0, 9), ((0, 1), (5, 0)))
        self.assertEqual(line_table([(2,), (8,), (8,), (2,)], 0, 9), ((0, 0), (6, 1)))

    def test_low_is_high(self):
        palette = [(4,), (0,), (9,), (4,)]
        for n in range(-3, 13):
            self.assertEqual(line_table(palette, n, n), ((n, nearest(palette, (n,))),))

    def test_a_begin_at_low_or_at_high(self):
        palette = [(0,), (10,), (20,)]
        self.assertEqual(line_table(palette, 6, 16), ((6, 1), (16, 2)))
        self.assertEqual(line_table(palette, 5, 15), ((5, 0), (6, 1)))
        self.assertEqual(line_table(palette, 7, 15), ((7, 1),))

    def test_far_ends(self):
        palette = [(999,), (0,), (500,)]
        self.assertEqual(line_table(palette, -FAR, FAR), ((-FAR, 1), (251, 2), (750, 0)))
        self.assertEqual(line_table(palette, 1000, FAR), ((1000, 0),))
        self.assertEqual(line_table(palette, -FAR, -1), ((-FAR, 1),))
        self.assertEqual(line_table(palette, FAR, FAR), ((FAR, 0),))
        self.assertEqual(line_table(palette, -FAR, -FAR), ((-FAR, 1),))

    def test_every_short_palette(self):
        for many in range(1, 5):
            for places in itertools.product(range(0, 5), repeat=many):
                palette = [(place,) for place in places]
                self.assertEqual(line_table(palette, -1, 6), changes(palette, -1, 6))

    def test_against_nearest_at_each_n(self):
        rng = dice(41)
        for turn in range(150):
            palette = some_colours(rng, 1, rng.choice((1, 2, 3, 10, 60)), 0, rng.choice((2, 10, 60, 999)))
            copied = list(palette)
            low = rng.randint(-20, 1010)
            high = low + rng.randint(0, 40)
            table = line_table(palette, low, high)
            self.assertIsInstance(table, tuple)
            self.assertEqual(table, changes(palette, low, high))
            for n in range(low, high + 1):
                self.assertEqual(by_table(table, n), nearest(palette, (n,)))
            self.assertEqual(palette, copied)

    def test_sixty_colours_on_the_whole_line(self):
        rng = dice(42)
        palette = some_colours(rng, 1, 60)
        table = line_table(palette, -FAR, FAR)
        self.assertEqual(table[0][0], -FAR)
        self.assertEqual(table[1:], changes(palette, -1, 1000)[1:])
        for n in list(range(-2, 1003)) + [-FAR, -FAR + 1, FAR - 1, FAR]:
            self.assertEqual(by_table(table, n), nearest(palette, (n,)))


class ByTable(unittest.TestCase):
    def test_at_each_begin_ahead_of_it_and_behind_it(self):
        table = ((-7, 3), (0, 1), (1, 3), (10, 0), (500, 2))
        for n, told in ((-7, 3), (-6, 3), (-1, 3), (0, 1), (1, 3), (2, 3), (9, 3), (10, 0), (11, 0),
                        (499, 0), (500, 2), (501, 2), (FAR, 2)):
            self.assertEqual(by_table(table, n), told)

    def test_of_one_row(self):
        for n in (-FAR, 0, FAR):
            self.assertEqual(by_table(((-FAR, 5),), n), 5)

    def test_of_more_rows_than_there_need_be(self):
        table = ((0, 4), (2, 4), (5, 4), (6, 1), (7, 1))
        self.assertEqual([by_table(table, n) for n in range(10)], [4] * 6 + [1] * 4)

    def test_of_any_rows_whose_begins_rise(self):
        rng = dice(43)
        for turn in range(100):
            begins = sorted(rng.sample(range(-50, 50), rng.randint(1, 60)))
            table = tuple((begin, rng.randint(0, 59)) for begin in begins)
            for n in range(begins[0], 60):
                told = [number for begin, number in table if not begin > n][-1]
                self.assertEqual(by_table(table, n), told)


if __name__ == "__main__":
    unittest.main()
