import unittest

from fewcolours.linecheck import shows_table
from fewcolours.lines import line_table
from fewcolours.looking import nearest
from tests.samples import ANYTHING, FAR, alike, deep, dice, one_otherwise, some_colours, some_thing, with_part

PALETTE = [(10,), (0,), (20,), (10,), (0,)]
TABLE = ((-5, 1), (5, 0), (16, 2))


def plainly_shown(palette, low, high, table):
    """The same by going through each n, of a tuple of pairs of numbers."""
    begins = [begin for begin, number in table]
    if begins[0] != low or max(begins) > high or begins != sorted(set(begins)):
        return False
    for n in range(low, high + 1):
        if [number for begin, number in table if begin <= n][-1] != nearest(palette, (n,)):
            return False
    return True


def with_more_rows(rng, palette, low, high, table):
    """The table with more rows that tell the same."""
    rows = dict(table)
    for turn in range(rng.randint(1, 6)):
        n = rng.randint(low, high)
        rows[n] = nearest(palette, (n,))
    return tuple(sorted(rows.items()))


class ShowsTable(unittest.TestCase):
    def refuse(self, table, palette=PALETTE, low=-5, high=30):
        self.assertIs(shows_table(palette, low, high, table), False, table)

    def test_of_what_line_table_tells(self):
        self.assertEqual(line_table(PALETTE, -5, 30), TABLE)
        self.assertIs(shows_table(PALETTE, -5, 30, TABLE), True)
        rng = dice(101)
        for turn in range(200):
            palette = some_colours(rng, 1, rng.choice((1, 2, 3, 10, 60)), 0, rng.choice((2, 10, 60, 999)))
            low = rng.randint(-20, 1010)
            high = low + rng.choice((0, 1, 5, 40, 1000))
            table = line_table(palette, low, high)
            self.assertIs(shows_table(palette, low, high, table), True)
            self.assertIs(shows_table(palette, low, high, with_more_rows(rng, palette, low, high, table)), True)

    def test_on_the_whole_line(self):
        rng = dice(102)
        palette = some_colours(rng, 1, 60)
        table = line_table(palette, -FAR, FAR)
        self.assertIs(shows_table(palette, -FAR, FAR, table), True)
        self.assertIs(shows_table(palette, -FAR, FAR, table + ((FAR, table[-1][1]),)), True)
        self.refuse(table + ((FAR + 1, table[-1][1]),), palette, -FAR, FAR)
        self.refuse(table[1:], palette, -FAR, FAR)
        self.refuse(table[:-1], palette, -FAR, FAR)

    def test_a_row_for_each_n(self):
        table = tuple((n, nearest(PALETTE, (n,))) for n in range(-5, 31))
        self.assertIs(shows_table(PALETTE, -5, 30, table), True)
        for at in range(len(table)):
            self.refuse(with_part(table, at, (table[at][0], (table[at][1] + 1) % 5)))

    def test_low_is_high(self):
        self.assertIs(shows_table(PALETTE, 7, 7, ((7, 0),)), True)
        for table in (((7, 1),), ((6, 0),), ((8, 0),), ((7, 0), (8, 0)), ((6, 0), (7, 0)), ((7, 0), (7, 0))):
            self.refuse(table, PALETTE, 7, 7)

    def test_a_begin_one_more_or_less(self):
        for at, (begin, number) in enumerate(TABLE):
            self.refuse(with_part(TABLE, at, (begin + 1, number)))
            self.refuse(with_part(TABLE, at, (begin - 1, number)))

    def test_begins_alike_or_exchanged(self):
        self.refuse(((-5, 1), (5, 0), (5, 0), (16, 2)))
        self.refuse(((-5, 1), (-5, 1), (5, 0), (16, 2)))
        self.refuse(((-5, 1), (5, 1), (5, 0), (16, 2)))
        self.refuse(((-5, 1), (16, 2), (5, 0)))
        self.refuse(((-5, 1), (7, 0), (5, 0), (16, 2)))
        self.refuse(((-5, 1), (16, 0), (5, 2)))
        self.refuse(((5, 0), (-5, 1), (16, 2)))

    def test_numbers_of_another_colour(self):
        for at, (begin, number) in enumerate(TABLE):
            for other in range(-6, 8):
                if other != number:
                    self.refuse(with_part(TABLE, at, (begin, other)))
            for other in (10 ** 30, -10 ** 30, 59, 60):
                self.refuse(with_part(TABLE, at, (begin, other)))

    def test_an_alike_one_that_is_behind(self):
        self.assertEqual((PALETTE[1], PALETTE[0]), (PALETTE[4], PALETTE[3]))
        self.refuse(((-5, 4), (5, 0), (16, 2)))
        self.refuse(((-5, 1), (5, 3), (16, 2)))

    def test_a_first_begin_that_is_not_low(self):
        self.refuse(TABLE, low=-6)
        self.refuse(TABLE, low=-4)
        self.refuse(((-6, 1), (-5, 1), (5, 0), (16, 2)))

    def test_a_begin_above_high(self):
        self.assertIs(shows_table(PALETTE, -5, 16, TABLE), True)
        self.refuse(TABLE, high=15)
        self.refuse(TABLE + ((31, 2),))
        self.assertIs(shows_table(PALETTE, -5, 30, TABLE + ((30, 2),)), True)

    def test_a_row_left_out(self):
        for at in range(3):
            self.refuse(TABLE[:at] + TABLE[at + 1:])

    def test_a_stretch_in_the_midst_that_is_left_out(self):
        self.refuse(((0, 0), (20, 0)), [(0,), (10,), (20,), (0,)], 0, 20)
        self.refuse(((0, 0), (11, 0)), [(0,), (10,)], 0, 20)

    def test_lists_and_no_rows(self):
        self.refuse(list(TABLE))
        self.refuse(tuple(list(row) for row in TABLE))
        for at in range(3):
            self.refuse(with_part(TABLE, at, list(TABLE[at])))
        self.refuse(())
        self.refuse([])

    def test_true_is_no_one(self):
        palette = [(0,), (9,)]
        self.assertIs(shows_table(palette, 1, 9, ((1, 0), (5, 1))), True)
        for table in (((True, 0), (5, 1)), ((1, False), (5, 1)), ((1, 0), (5, True))):
            self.refuse(table, palette, 1, 9)

    def test_one_part_otherwise(self):
        for changed in one_otherwise(TABLE, ANYTHING):
            self.assertFalse(alike(changed, TABLE))
            # Each row is needed here, and each of its numbers, so nothing else is right.
            self.refuse(changed)

    def test_anything(self):
        rng = dice(103)
        for thing in ANYTHING:
            self.refuse(thing)
            for many in (1, 2):
                self.refuse((thing,) * many)
                self.refuse(((-5, thing),) * many)
                self.refuse(((thing, 1),) * many)
        for turn in range(2000):
            self.refuse(some_thing(rng, rng.randint(0, 6)))
        self.refuse((deep(19),))
        self.refuse(((-5, deep(18)),))

    def test_against_each_n(self):
        rng = dice(104)
        shown = 0
        for turn in range(3000):
            palette = some_colours(rng, 1, rng.randint(1, 4), 0, 6)
            low = rng.randint(-2, 4)
            high = low + rng.randint(0, 6)
            table = line_table(palette, low, high)
            if rng.random() < 0.5:
                table = with_more_rows(rng, palette, low, high, table)
            for change in range(rng.randint(0, 2)):
                at = rng.randrange(len(table))
                begin, number = table[at]
                row = rng.choice(((begin + rng.choice((-1, 1)), number), (begin, rng.randint(-1, 4))))
                table = with_part(table, at, row)
            told = plainly_shown(palette, low, high, table)
            shown += told
            self.assertIs(shows_table(palette, low, high, table), told)
        self.assertGreater(shown, 500)
        self.assertLess(shown, 2500)


if __name__ == "__main__":
    unittest.main()
