import unittest
from fractions import Fraction

from fewcolours.cutting import cut_groups, palette_by_cuts
from fewcolours.middles import middle_of, rounded
from tests.samples import alike, check_own, dice, some_rows


def sides(group):
    return [max(numbers) - min(numbers) for numbers in zip(*[colour for colour, count in group])]


def counted(group):
    return sum(count for colour, count in group)


def plain_cut(group):
    """The two groups, by trying how many go first."""
    place = [at for at, side in enumerate(sides(group)) if side == max(sides(group))][0]
    order = sorted(sorted(group), key=lambda row: row[0][place])
    many = 1
    while Fraction(counted(order[:many])) < Fraction(counted(order), 2):
        many += 1
    many = min(many, len(order) - 1)
    return sorted(order[:many]), sorted(order[many:])


def plain_groups(rows, many):
    groups = [list(rows)]
    while len(groups) < many:
        chosen = None
        for at, group in enumerate(groups):
            if len(group) < 2:
                continue
            if chosen is None:
                chosen = at
            elif max(sides(group)) > max(sides(groups[chosen])):
                chosen = at
            elif max(sides(group)) == max(sides(groups[chosen])) and counted(group) > counted(groups[chosen]):
                chosen = at
        if chosen is None:
            break
        groups = groups[:chosen] + list(plain_cut(groups[chosen])) + groups[chosen + 1:]
    return groups


def on_line(*counts):
    """Rows of width 1 at 0, 1, 2, .. with these counts, none where it is 0."""
    return [((at,), count) for at, count in enumerate(counts) if count]


class CutGroups(unittest.TestCase):
    def test_of_one(self):
        rows = [((1, 2), 3), ((4, 5), 6)]
        self.assertEqual(cut_groups(rows, 1), [rows])
        self.assertEqual(cut_groups(rows[:1], 1), [rows[:1]])
        self.assertEqual(cut_groups(rows[:1], 9), [rows[:1]])

    def test_half_of_the_counts_just_met(self):
        self.assertEqual(cut_groups(on_line(1, 1, 1, 1), 2), [on_line(1, 1), on_line(0, 0, 1, 1)])
        self.assertEqual(cut_groups(on_line(3, 1, 2), 2), [on_line(3), on_line(0, 1, 2)])
        self.assertEqual(cut_groups(on_line(1, 2, 3), 2), [on_line(1, 2), on_line(0, 0, 3)])

    def test_half_of_the_counts_missed_by_one(self):
        self.assertEqual(cut_groups(on_line(3, 2, 2), 2), [on_line(3, 2), on_line(0, 0, 2)])
        self.assertEqual(cut_groups(on_line(2, 2, 1), 2), [on_line(2, 2), on_line(0, 0, 1)])
        self.assertEqual(cut_groups(on_line(1, 1, 1), 2), [on_line(1, 1), on_line(0, 0, 1)])

    def test_never_all_in_one(self):
        self.assertEqual(cut_groups(on_line(1, 1000), 2), [on_line(1), on_line(0, 1000)])
        self.assertEqual(cut_groups(on_line(1, 1, 1000), 2), [on_line(1, 1), on_line(0, 0, 1000)])
        self.assertEqual(cut_groups(on_line(1000, 1, 1), 2), [on_line(1000), on_line(0, 1, 1)])
        self.assertEqual(cut_groups(on_line(1, 1000, 1), 2), [on_line(1, 1000), on_line(0, 0, 1)])

    def test_the_first_place_of_the_longest_side(self):
        rows = [((0, 9, 5), 1), ((5, 0, 0), 1), ((9, 4, 4), 1)]
        self.assertEqual(cut_groups(rows, 2), [rows[:2], rows[2:]])
        rows = [((0, 9, 5), 1), ((5, 0, 0), 1), ((8, 4, 4), 1)]
        self.assertEqual(cut_groups(rows, 2), [[rows[1], rows[2]], [rows[0]]])
        rows = [((3, 3, 9), 1), ((3, 4, 1), 1), ((4, 3, 5), 1)]
        self.assertEqual(cut_groups(rows, 2), [[rows[1], rows[2]], [rows[0]]])

    def test_equal_numbers_there_go_as_colours_rise(self):
        rows = [((0, 7), 1), ((1, 0), 1), ((2, 7), 1), ((3, 7), 1)]
        self.assertEqual(cut_groups(rows, 2), [[rows[0], rows[1]], [rows[2], rows[3]]])

    def test_groups_are_rising_though_cut_in_another_order(self):
        rows = [((0, 90), 1), ((1, 10), 1), ((2, 95), 1), ((3, 0), 1)]
        self.assertEqual(cut_groups(rows, 2), [[rows[1], rows[3]], [rows[0], rows[2]]])

    def test_the_longest_side_goes_first(self):
        rows = [((0,), 1), ((4,), 1), ((20,), 1), ((25,), 1)]
        self.assertEqual(cut_groups(rows, 3), [rows[:2], rows[2:3], rows[3:]])
        rows = [((0,), 1), ((6,), 1), ((20,), 1), ((25,), 1)]
        self.assertEqual(cut_groups(rows, 3), [rows[:1], rows[1:2], rows[2:]])

    def test_equal_sides_go_by_the_greater_sum_of_counts(self):
        rows = [((0,), 2), ((4,), 2), ((20,), 2), ((24,), 1)]
        self.assertEqual(cut_groups(rows, 3), [rows[:1], rows[1:2], rows[2:]])
        # Cut to 0, 4, 50 and 100, 104; then to 0, 4 and 50; the greater sum of the two sides of 4 stands behind.
        rows = [((0,), 1), ((4,), 1), ((50,), 10), ((100,), 4), ((104,), 4)]
        self.assertEqual(cut_groups(rows, 3), [rows[:2], rows[2:3], rows[3:]])
        self.assertEqual(cut_groups(rows, 4), [rows[:2], rows[2:3], rows[3:4], rows[4:]])
        self.assertEqual(cut_groups(rows, 5), [[row] for row in rows])

    def test_equal_sides_and_counts_go_by_the_first_in_the_list(self):
        rows = [((0,), 1), ((4,), 1), ((20,), 1), ((24,), 1)]
        self.assertEqual(cut_groups(rows, 3), [rows[:1], rows[1:2], rows[2:]])
        self.assertEqual(cut_groups(rows, 4), [rows[:1], rows[1:2], rows[2:3], rows[3:]])

    def test_as_many_as_colours_and_more(self):
        rows = on_line(3, 1, 4, 1, 5)
        for many in (5, 6, 60, 999999999):
            self.assertEqual(cut_groups(rows, many), [[row] for row in rows])

    def test_one_colour_with_nearly_all_counts(self):
        rows = [((at, 0), 1000 if at == 7 else 1) for at in range(12)]
        for many in range(1, 14):
            self.assertEqual(cut_groups(rows, many), plain_groups(rows, many))

    def test_against_plain_groups(self):
        rng = dice(211)
        for turn in range(250):
            rows = some_rows(rng, rng.randint(1, 5), rng.choice((1, 2, 5, 20, 60)), 0, rng.choice((1, 3, 9, 999)))
            if rng.random() < 0.6:
                rows = [(colour, rng.randint(1, 3)) for colour, count in rows]
            for many in {1, 2, 3, rng.randint(1, 60), len(rows), len(rows) + 1}:
                told = cut_groups(rows, many)
                self.assertTrue(alike(told, plain_groups(rows, many)))
                self.assertEqual(len(told), min(many, len(rows)))
                self.assertEqual(sorted(row for group in told for row in group), rows)


class PaletteByCuts(unittest.TestCase):
    def test_of_two_numbers_the_greater(self):
        self.assertEqual(palette_by_cuts([((0, 3), 1), ((1, 4), 1)], 1), [(1, 4)])
        self.assertEqual(palette_by_cuts([((0, 3), 2), ((1, 4), 1)], 1), [(0, 3)])
        self.assertEqual(palette_by_cuts([((0, 3), 2), ((1, 4), 1)], 2), [(0, 3), (1, 4)])

    def test_alike_ones_stay(self):
        rows = [((0,), 1), ((1,), 999), ((2,), 999), ((3,), 1)]
        self.assertEqual(palette_by_cuts(rows, 2), [(1,), (2,)])
        rows = [((0, 0), 1), ((0, 1), 1), ((1, 0), 1), ((1, 1), 1)]
        self.assertEqual(palette_by_cuts(rows, 2), [(0, 1), (1, 1)])

    def test_against_the_groups(self):
        rng = dice(212)
        for turn in range(100):
            rows = some_rows(rng, rng.randint(1, 5), rng.choice((1, 2, 5, 20, 60)), 0, rng.choice((1, 9, 999)))
            many = rng.randint(1, 60)
            told = palette_by_cuts(rows, many)
            self.assertTrue(alike(told, [rounded(middle_of(group)) for group in plain_groups(rows, many)]))


class Own(unittest.TestCase):
    def test_what_is_handed_in_and_told(self):
        for many in (1, 2, 5, 9):
            check_own(self, cut_groups, on_line(3, 1, 4, 1, 5), many)
            check_own(self, palette_by_cuts, on_line(3, 1, 4, 1, 5), many)
        check_own(self, cut_groups, on_line(1), 1)


if __name__ == "__main__":
    unittest.main()
