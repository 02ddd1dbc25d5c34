import unittest

from fewcolours.handing import handed_on, wanted_by
from fewcolours.looking import nearest
from fewcolours.pictures import numbers_by, painted
from tests.samples import alike, check_own, dice, some_palette, some_picture

FOUR = [(1, 0, 7), (-1, 1, 3), (0, 1, 5), (1, 1, 1)]
PLACES = [(across, down) for down in range(3) for across in range(-2, 3) if down > 0 or across > 0]


def some_shares(rng):
    places = rng.sample(PLACES, rng.choice((0, 1, 1, 2, 3, 4, 8, len(PLACES))))
    return [(across, down, rng.choice((1, 2, 3, 16, 64, rng.randint(1, 64)))) for across, down in places]


def plain_walk(picture, palette, shares, way, tell):
    """The same by keeping, for each spot, the list of all that was handed to it. Tells (wanted, numbers, lost)."""
    rows, columns, wide = len(picture), len(picture[0]), len(picture[0][0])
    handed = {(row, column): [] for row in range(rows) for column in range(columns)}
    wanted, numbers = {}, {}
    lost = [0] * wide
    total = sum(share[2] for share in shares)
    for row in range(rows):
        back = way == "turned" and row % 2 != 0
        for step in range(columns):
            column = columns - 1 - step if back else step
            here = [picture[row][column]] + handed[row, column]
            wanted[row, column] = tuple(sum(numbers_there) for numbers_there in zip(*here))
            number = numbers[row, column] = tell(row, column, wanted[row, column])
            for place in range(wide):
                left = wanted[row, column][place] - palette[number][place]
                gifts = []
                for across, down, parts in shares:
                    spot = (row + down, column - across if back else column + across)
                    if spot in handed:
                        gifts.append([spot, left * parts // total])
                if gifts:
                    gifts[0][1] += left - sum(gift for spot, gift in gifts)
                else:
                    lost[place] += left
                for spot, gift in gifts:
                    handed[spot].append(tuple(gift if at == place else 0 for at in range(wide)))
    as_rows = [[told[row, column] for column in range(columns)] for told in (wanted, numbers) for row in range(rows)]
    return as_rows[:rows], as_rows[rows:], tuple(lost)


def some_questions(seed, turns):
    rng = dice(seed)
    for turn in range(turns):
        wide = rng.randint(1, 3)
        picture = some_picture(rng, wide, rng.choice((1, 9, 999)))
        palette = some_palette(rng, wide, 8)
        yield rng, picture, palette, some_shares(rng), rng.choice(("same", "turned"))


class WantedBy(unittest.TestCase):
    def test_told_by_hand(self):
        picture = [[(0,), (0,), (0,)], [(0,), (0,), (0,)]]
        numbers = [[0, 1, 0], [0, 0, 0]]
        # What is left over at the middle of the first row is -1: each share is handed -1, the first one 3 more.
        told = wanted_by(picture, [(0,), (1,)], FOUR, "same", numbers)
        self.assertEqual(told, [[(0,), (0,), (2,)], [(-1,), (0,), (-1,)]])

    def test_of_no_shares(self):
        picture = [[(3, 4), (5, 6)], [(7, 8), (9, 0)]]
        for way in ("same", "turned"):
            self.assertEqual(wanted_by(picture, [(0, 0), (9, 9)], [], way, [[0, 1], [1, 0]]), picture)

    def test_of_one_share(self):
        picture, palette = [[(5,), (1,), (2,)], [(4,), (0,), (9,)]], [(0,), (3,)]
        numbers = [[1, 0, 1], [0, 1, 1]]
        told = [[(5,), (3,), (5,)], [(4,), (4,), (10,)]]
        self.assertEqual(wanted_by(picture, palette, [(1, 0, 64)], "same", numbers), told)
        told = [[(5,), (3,), (5,)], [(7,), (6,), (9,)]]
        self.assertEqual(wanted_by(picture, palette, [(1, 0, 1)], "turned", numbers), told)
        told = [[(5,), (1,), (2,)], [(6,), (1,), (8,)]]
        self.assertEqual(wanted_by(picture, palette, [(0, 1, 5)], "same", numbers), told)
        self.assertEqual(wanted_by(picture, palette, [(0, 1, 5)], "turned", numbers), told)
        self.assertEqual(wanted_by(picture, palette, [(0, 2, 5)], "same", numbers), picture)

    def test_across_counts_to_the_left_in_turned_rows(self):
        picture = [[(0,)] * 5 for row in range(4)]
        palette = [(0,), (-8,)]
        numbers = [[0] * 5, [0, 0, 1, 0, 0], [0] * 5, [0] * 5]
        shares = [(1, 0, 1), (2, 1, 1), (-2, 1, 1), (1, 2, 1)]
        # -1 is left over at row 1, column 2; each share is handed -1, the first one 3 more, which then go on across.
        told = wanted_by(picture, [(0,), (1,)], shares, "same", numbers)
        self.assertEqual(told[1], [(0,), (0,), (0,), (2,), (2,)])
        told = wanted_by(picture, [(0,), (1,)], shares, "turned", numbers)
        self.assertEqual(told[1], [(2,), (2,), (0,), (0,), (0,)])
        told = wanted_by(picture, palette, [(2, 1, 1)], "same", numbers)
        self.assertEqual(told, [[(0,)] * 5, [(0,)] * 5, [(0,), (0,), (0,), (0,), (8,)], [(0,)] * 5])
        told = wanted_by(picture, palette, [(2, 1, 1)], "turned", numbers)
        # Row 2 goes from the left again, so its spot at column 0 hands on to column 2 of row 3.
        self.assertEqual(told, [[(0,)] * 5, [(0,)] * 5, [(8,), (0,), (0,), (0,), (0,)], [(0,), (0,), (8,), (0,), (0,)]])
        told = wanted_by(picture, palette, [(-1, 2, 1)], "turned", numbers)
        self.assertEqual(told, [[(0,)] * 5, [(0,)] * 5, [(0,)] * 5, [(0,), (0,), (0,), (8,), (0,)]])

    def test_what_remains_goes_to_the_first_whose_spot_lies_in_the_picture(self):
        palette, numbers = [(0,), (10,)], [[0, 0], [0, 0]]
        shares = [(-1, 1, 1), (1, 0, 1), (0, 1, 1)]
        told = wanted_by([[(10,), (0,)], [(0,), (0,)]], palette, shares, "same", [[0, 1], [0, 0]])
        # 10 is left over: 3 to each of two, and 4 more to the first of them. (The spot of -1 and 1 is none.)
        # Then 7 - 10 is left over there: -1 to each of two, and -1 more to the first of them, the one on the left.
        # Last, 1 is left over beside it, and goes across.
        self.assertEqual(told, [[(10,), (7,)], [(1,), (0,)]])
        told = wanted_by([[(10,), (0,)]], palette, [(0, 1, 9), (1, 0, 1)], "same", [[0, 0]])
        self.assertEqual(told, [[(10,), (10,)]])
        told = wanted_by([[(10,), (0,)], [(0,), (0,)]], palette, [(0, 1, 9), (1, 0, 1)], "same", numbers)
        self.assertEqual(told, [[(10,), (1,)], [(9,), (10,)]])

    def test_each_place_by_itself(self):
        palette, shares = [(0, 0, 0)], [(1, 0, 1), (0, 1, 2)]
        told = wanted_by([[(5, 6, 0), (0, 0, 7)], [(0, 0, 0), (1, 1, 1)]], palette, shares, "same", [[0, 0], [0, 0]])
        # Of 5 is 1 handed across and 3 down, and 1 more across; of 6 is 2 and 4.
        self.assertEqual(told, [[(5, 6, 0), (2, 2, 7)], [(3, 4, 0), (6, 7, 8)]])

    def test_of_any_numbers(self):
        for rng, picture, palette, shares, way in some_questions(201, 150):
            numbers = [[rng.randrange(len(palette)) for colour in row] for row in picture]
            wanted, same, lost = plain_walk(picture, palette, shares, way, lambda row, column, here: numbers[row][column])
            self.assertEqual(same, numbers)
            told = wanted_by(picture, palette, shares, way, numbers)
            self.assertTrue(alike(told, wanted))

    def test_of_one_spot(self):
        for shares in ([], FOUR, [(0, 1, 1)]):
            for way in ("same", "turned"):
                self.assertEqual(wanted_by([[(5, 7)]], [(9, 9)], shares, way, [[0]]), [[(5, 7)]])


class HandedOn(unittest.TestCase):
    def test_told_by_hand(self):
        palette = [(0,), (7,)]
        self.assertEqual(handed_on([[(10,), (0,)]], palette, [(1, 0, 1)], "same"), ([[1, 0]], (3,)))
        self.assertEqual(handed_on([[(10,), (0,)]], palette, [], "same"), ([[1, 0]], (3,)))
        self.assertEqual(handed_on([[(10,)], [(1,)]], palette, [(0, 1, 1)], "turned"), ([[1], [1]], (-3,)))
        self.assertEqual(handed_on([[(3,), (3,), (3,), (3,)]], palette, [(1, 0, 1)], "same"), ([[0, 1, 0, 1]], (-2,)))
        self.assertEqual(handed_on([[(3,)] * 4] * 2, palette, [(1, 0, 1)], "turned"), ([[0, 1, 0, 1], [1, 0, 1, 0]], (-4,)))

    def test_of_one_spot(self):
        self.assertEqual(handed_on([[(5, 0)]], [(9, 9), (4, 2)], FOUR, "turned"), ([[1]], (1, -2)))

    def test_ties_go_to_the_least_number(self):
        self.assertEqual(handed_on([[(1,), (1,)]], [(2,), (0,), (0,)], [(1, 0, 1)], "same"), ([[0, 1]], (0,)))
        self.assertEqual(handed_on([[(1,), (1,)]], [(0,), (2,), (2,)], [(1, 0, 1)], "same"), ([[0, 1]], (0,)))

    def test_of_many_pictures(self):
        for rng, picture, palette, shares, way in some_questions(202, 200):
            told = handed_on(picture, palette, shares, way)
            self.assertIs(type(told), tuple)
            numbers, lost = told
            plain = plain_walk(picture, palette, shares, way, lambda row, column, here: nearest(palette, here))
            self.assertTrue(alike(numbers, plain[1]))
            self.assertTrue(alike(lost, plain[2]))
            wanted = wanted_by(picture, palette, shares, way, numbers)
            self.assertEqual(numbers_by(wanted, palette), numbers)

    def test_the_sums_are_the_same(self):
        for rng, picture, palette, shares, way in some_questions(203, 200):
            numbers, lost = handed_on(picture, palette, shares, way)
            there = [colour for row in picture for colour in row]
            told = [colour for row in painted(numbers, palette) for colour in row]
            self.assertEqual([sum(place) for place in zip(*there)], [sum(place) for place in zip(*told, lost)])

    def test_of_no_shares(self):
        for rng, picture, palette, shares, way in some_questions(204, 60):
            numbers, lost = handed_on(picture, palette, [], way)
            self.assertEqual(numbers, numbers_by(picture, palette))

    def test_one_row_is_gone_through_the_same_both_ways(self):
        rng = dice(205)
        for turn in range(30):
            picture, palette = some_picture(rng, 2, size=(1, 9)), some_palette(rng, 2, 8)
            shares = some_shares(rng)
            self.assertEqual(handed_on(picture, palette, shares, "same"), handed_on(picture, palette, shares, "turned"))

    def test_nothing_is_lost_but_where_there_is_none(self):
        rng = dice(206)
        for turn in range(30):
            picture, palette = some_picture(rng, 1, size=(4, 4)), some_palette(rng, 1, 5)
            numbers, lost = handed_on(picture, palette, [(1, 0, 3), (0, 1, 5)], "same")
            last = wanted_by(picture, palette, [(1, 0, 3), (0, 1, 5)], "same", numbers)[3][3]
            self.assertEqual(lost, (last[0] - palette[numbers[3][3]][0],))


class Own(unittest.TestCase):
    def test_what_is_handed_in_and_told(self):
        for rng, picture, palette, shares, way in some_questions(207, 30):
            numbers = [[rng.randrange(len(palette)) for colour in row] for row in picture]
            check_own(self, wanted_by, [list(row) for row in picture], list(palette), list(shares), way, numbers)
            check_own(self, handed_on, [list(row) for row in picture], list(palette), list(shares), way)
            check_own(self, handed_on, [list(row) for row in picture], list(palette), [], way)

    def test_rows_that_are_one_and_the_same_list(self):
        row = [(5,), (0,)]
        picture = [row, row]
        told = handed_on(picture, [(0,), (9,)], [(0, 1, 1)], "same")
        self.assertEqual(told, handed_on([list(row), list(row)], [(0,), (9,)], [(0, 1, 1)], "same"))
        self.assertEqual(row, [(5,), (0,)])
        self.assertIsNot(told[0][0], told[0][1])


if __name__ == "__main__":
    unittest.main()
