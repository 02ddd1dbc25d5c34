import unittest

from fewcolours.colours import apart
from fewcolours.looking import nearest
from fewcolours.pictures import counts_in, lost_in, most_used, numbers_by, painted
from tests.samples import alike, check_own, dice, some_colours, some_palette, some_picture

SIZES = [(1, 1), (1, 16), (16, 1), (16, 16), (2, 3)]


def spots_of(picture):
    return [colour for row in picture for colour in row]


def some_pictures(seed, turns):
    rng = dice(seed)
    for turn in range(turns):
        yield rng, some_picture(rng, rng.randint(1, 5), rng.choice((0, 1, 3, 999)))


class CountsIn(unittest.TestCase):
    def test_told_by_hand(self):
        self.assertEqual(counts_in([[(5,)]]), [((5,), 1)])
        self.assertEqual(counts_in([[(5,), (3,)], [(5,), (5,)]]), [((3,), 1), ((5,), 3)])
        self.assertEqual(counts_in([[(1, 9), (1, 2), (0, 10)]]), [((0, 10), 1), ((1, 2), 1), ((1, 9), 1)])
        self.assertEqual(counts_in([[(7, 7)] * 16] * 16), [((7, 7), 256)])

    def test_of_many_pictures(self):
        for rng, picture in some_pictures(161, 150):
            spots = spots_of(picture)
            told = [(colour, spots.count(colour)) for colour in sorted(set(spots))]
            self.assertTrue(alike(counts_in(picture), told))

    def test_all_unlike(self):
        picture = [[(15 - column, row) for column in range(16)] for row in range(16)]
        told = counts_in(picture)
        self.assertEqual(told, [((a, b), 1) for a in range(16) for b in range(16)])


class MostUsed(unittest.TestCase):
    def test_told_by_hand(self):
        picture = [[(9,), (4,), (9,), (2,)], [(4,), (7,), (9,), (2,)]]
        order = [(9,), (2,), (4,), (7,)]
        for many in (1, 2, 3, 4, 5, 60, 999999999):
            self.assertEqual(most_used(picture, many), order[:many])

    def test_ties_go_to_the_lesser_colours(self):
        self.assertEqual(most_used([[(1, 9), (1, 2), (0, 10)]], 2), [(0, 10), (1, 2)])
        self.assertEqual(most_used([[(3,), (2,), (1,), (3,), (2,), (1,), (0,)]], 3), [(1,), (2,), (3,)])

    def test_of_many_pictures(self):
        for rng, picture in some_pictures(162, 150):
            left, order = counts_in(picture), []
            while left:
                greatest = max(count for colour, count in left)
                row = [row for row in left if row[1] == greatest][0]
                left.remove(row)
                order.append(row[0])
            for many in {1, 2, max(len(order) // 2, 1), max(len(order) - 1, 1), len(order), len(order) + 1}:
                self.assertTrue(alike(most_used(picture, many), order[:many]))


class NumbersBy(unittest.TestCase):
    def test_told_by_hand(self):
        self.assertEqual(numbers_by([[(6,)]], [(0,), (9,)]), [[1]])
        self.assertEqual(numbers_by([[(0,), (5,), (9,)], [(4,), (6,), (1,)]], [(0,), (9,)]), [[0, 1, 1], [0, 1, 0]])

    def test_alike_colours_and_ties(self):
        palette = [(4,), (0,), (4,), (0,)]
        self.assertEqual(numbers_by([[(0,), (1,), (2,), (3,), (4,)]], palette), [[1, 1, 0, 0, 0]])
        self.assertEqual(numbers_by([[(0,)], [(2,)]], palette[1:]), [[0], [0]])

    def test_of_many_pictures(self):
        for rng, picture in some_pictures(163, 60):
            palette = some_palette(rng, len(picture[0][0]))
            told = numbers_by(picture, palette)
            self.assertEqual([len(row) for row in told], [len(row) for row in picture])
            for row, numbers in zip(picture, told):
                self.assertEqual(numbers, [nearest(palette, colour) for colour in row])


class Painted(unittest.TestCase):
    def test_told_by_hand(self):
        self.assertEqual(painted([[0, 1], [1, 1]], [(5, 5), (6, 6)]), [[(5, 5), (6, 6)], [(6, 6), (6, 6)]])
        self.assertEqual(painted([[2]], [(5,), (6,), (5,)]), [[(5,)]])

    def test_of_any_numbers(self):
        rng = dice(164)
        for rows, columns in SIZES:
            palette = some_palette(rng, 3)
            numbers = [[rng.randrange(len(palette)) for column in range(columns)] for row in range(rows)]
            told = painted(numbers, palette)
            self.assertEqual([len(row) for row in told], [columns] * rows)
            for row in range(rows):
                for column in range(columns):
                    self.assertEqual(told[row][column], palette[numbers[row][column]])


class LostIn(unittest.TestCase):
    def test_told_by_hand(self):
        self.assertEqual(lost_in([[(5, 5)]], [[(2, 1)]]), 25)
        self.assertEqual(lost_in([[(5,), (2,)], [(0,), (9,)]], [[(4,), (4,)], [(3,), (5,)]]), 1 + 4 + 9 + 16)
        self.assertEqual(lost_in([[(0,) * 5] * 16] * 16, [[(999,) * 5] * 16] * 16), 256 * 5 * 998001)

    def test_of_many_pictures(self):
        rng = dice(165)
        for size in SIZES:
            picture, other = some_picture(rng, 3, size=size), some_picture(rng, 3, size=size)
            total = 0
            for row in range(size[0]):
                for column in range(size[1]):
                    total += apart(picture[row][column], other[row][column])
            self.assertEqual(lost_in(picture, other), total)
            self.assertEqual(lost_in(other, picture), total)
            self.assertEqual(lost_in(picture, picture), 0)

    def test_the_nearest_lose_the_least(self):
        rng = dice(166)
        picture, palette = some_picture(rng, 2, size=(3, 3)), some_colours(rng, 2, 5)
        least = lost_in(picture, painted(numbers_by(picture, palette), palette))
        for turn in range(200):
            numbers = [[rng.randrange(5) for column in range(3)] for row in range(3)]
            self.assertLessEqual(least, lost_in(picture, painted(numbers, palette)))


class Own(unittest.TestCase):
    def test_what_is_handed_in_and_told(self):
        rng = dice(167)
        for size in SIZES:
            picture, palette = some_picture(rng, 2, 3, size), some_colours(rng, 2, 5, 0, 3)
            numbers = numbers_by(picture, palette)
            check_own(self, counts_in, [list(row) for row in picture])
            check_own(self, most_used, [list(row) for row in picture], 1)
            check_own(self, most_used, [list(row) for row in picture], 99)
            check_own(self, numbers_by, [list(row) for row in picture], list(palette))
            check_own(self, painted, [list(row) for row in numbers], list(palette))
            check_own(self, lost_in, [list(row) for row in picture], painted(numbers, palette))

    def test_rows_that_are_one_and_the_same_list_are_told_as_two(self):
        row = [(1,), (2,)]
        told = numbers_by([row, row], [(1,), (2,)])
        self.assertIsNot(told[0], told[1])
        told = painted([[0, 1]] * 2, [(1,), (2,)])
        self.assertIsNot(told[0], told[1])


if __name__ == "__main__":
    unittest.main()
