import itertools
import unittest
from fractions import Fraction

from fewcolours.best import best_groups, total_of
from fewcolours.bestline import best_on_line
from tests.samples import alike, as_pair, check_own, dice, plain_spread, some_rows


def stretches(rows, begins):
    """The groups that begin at these places."""
    return [rows[begin:end] for begin, end in zip(begins, begins[1:] + [len(rows)])]


def plain_spreads(rows):
    """The spreads of all stretches, by where they begin and end."""
    return {(begin, end): plain_spread(rows[begin:end]) for end in range(1, len(rows) + 1) for begin in range(end)}


def plain_on_line(rows, manies):
    """For each of manies what best_on_line tells of it, by going through all stretches."""
    spreads = plain_spreads(rows)
    best = {many: None for many in manies}
    for cuts in range(min(max(manies), len(rows))):
        for places in itertools.combinations(range(1, len(rows)), cuts):
            begins = [0, *places]
            total = sum((spreads[ends] for ends in zip(begins, begins[1:] + [len(rows)])), Fraction(0))
            for many in manies:
                if len(begins) <= many and (best[many] is None or (total, begins) < best[many]):
                    best[many] = (total, begins)
    return {many: (as_pair(total), begins) for many, (total, begins) in best.items()}


def least_on_line(rows, many):
    """The least total only, reckoned from the first row on."""
    spreads = plain_spreads(rows)
    least = [spreads[0, end] for end in range(1, len(rows) + 1)]
    for groups in range(1, many):
        least = [min([least[end - 1]] + [least[begin - 1] + spreads[begin, end] for begin in range(1, end)])
                 for end in range(1, len(rows) + 1)]
    return as_pair(least[-1])


def some_line(rng, many):
    """At most so many rows of width 1, often in equal steps or with like counts."""
    rows = some_rows(rng, 1, many, 0, rng.choice((many // 2, many, 3 * many, 999)))
    if rng.random() < 0.5:
        rows = [(colour, rng.choice((1, 1, 2))) for colour, count in rows]
    return rows


def exactly(rng, many):
    """So many rows, of unlike steps and counts."""
    return [((number,), rng.randint(1, 1000)) for number in sorted(rng.sample(range(1000), many))]


class BestOnLine(unittest.TestCase):
    def test_told_by_hand(self):
        rows = [((0,), 1), ((1,), 1), ((10,), 1), ((11,), 1)]
        self.assertEqual(best_on_line(rows, 1), ((101, 1), [0]))
        self.assertEqual(best_on_line(rows, 2), ((1, 1), [0, 2]))
        self.assertEqual(best_on_line(rows, 3), ((1, 2), [0, 1, 2]))
        self.assertEqual(best_on_line(rows, 4), ((0, 1), [0, 1, 2, 3]))
        self.assertEqual(best_on_line([((7,), 5)], 1), ((0, 1), [0]))
        self.assertEqual(best_on_line([((0,), 1), ((3,), 2)], 1), ((6, 1), [0]))

    def test_counts_weigh(self):
        rows = [((0,), 1), ((10,), 1000), ((15,), 1000), ((30,), 1)]
        self.assertEqual(best_on_line(rows, 2)[1], [0, 2])
        rows = [((0,), 1), ((10,), 1), ((15,), 1), ((30,), 1)]
        self.assertEqual(best_on_line(rows, 2)[1], [0, 3])

    def test_against_all_stretches(self):
        rng = dice(321)
        for turn in range(120):
            rows = some_line(rng, rng.randint(1, 8))
            plain = plain_on_line(rows, range(1, 11))
            for many in range(1, 11):
                told = best_on_line(rows, many)
                self.assertIs(type(told), tuple)
                self.assertTrue(alike(told, plain[many]), (rows, many))

    def test_against_all_stretches_of_twelve_rows(self):
        rng = dice(322)
        for rows in [[((number,), 1) for number in range(12)], [((number,), 7) for number in range(0, 999, 90)],
                     *[some_line(rng, 12) for turn in range(6)], exactly(rng, 12), exactly(rng, 11)]:
            plain = plain_on_line(rows, range(1, 11))
            for many in range(1, 11):
                self.assertTrue(alike(best_on_line(rows, many), plain[many]), (rows, many))

    def test_of_few_rows_the_very_groups_of_best_groups(self):
        rng = dice(323)
        for turn in range(120):
            rows = some_line(rng, rng.randint(1, 7))
            for many in (1, 2, 3, 4):
                total, begins = best_on_line(rows, many)
                self.assertTrue(alike((total, stretches(rows, begins)), best_groups(rows, many)))
        for rows in ([((number,), 1) for number in range(9)], exactly(rng, 9), exactly(rng, 8)):
            for many in (1, 2, 3, 4):
                total, begins = best_on_line(rows, many)
                self.assertTrue(alike((total, stretches(rows, begins)), best_groups(rows, many)))

    def test_of_forty_to_sixty_rows(self):
        rng = dice(324)
        for turn in range(6):
            rows = exactly(rng, rng.choice((40, 47, 60)))
            for many in (rng.randint(2, 9), 10):
                total, begins = best_on_line(rows, many)
                self.assertTrue(alike(total, least_on_line(rows, many)))
                self.assertTrue(alike(total, total_of(stretches(rows, begins))))
                self.assertEqual((begins[0], len(begins)), (0, many))
                self.assertEqual(begins, sorted(set(begins)))

    def test_of_equal_steps_and_counts(self):
        for long, step, count in ((40, 1, 1), (47, 3, 1000), (53, 2, 7), (60, 16, 2), (59, 1, 3)):
            rows = [((number * step,), count) for number in range(long)]
            for many in (1, 3, 7, 10):
                total, begins = best_on_line(rows, many)
                size, more = divmod(long, many)
                sizes = [size] * (many - more) + [size + 1] * more
                self.assertEqual([len(group) for group in stretches(rows, begins)], sizes)
                self.assertTrue(alike(total, total_of(stretches(rows, begins))))

    def test_of_heaps_far_apart(self):
        rng = dice(325)
        for many in (2, 5, 10):
            rows, begins = [], []
            for heap in range(many):
                begins.append(len(rows))
                numbers = sorted(rng.sample(range(heap * 100, heap * 100 + 8), rng.randint(2, 6)))
                rows.extend(((number,), rng.randint(500, 1000)) for number in numbers)
            self.assertEqual(best_on_line(rows, many)[1], begins)

    def test_mirrored_moved_and_with_twice_the_counts(self):
        rng = dice(326)
        for turn in range(12):
            rows = exactly(rng, rng.choice((5, 12, 25, 40)))
            many = rng.randint(1, 10)
            total, begins = best_on_line(rows, many)
            mirrored = [((999 - colour[0],), count) for colour, count in reversed(rows)]
            ends = sorted(len(rows) - end for end in begins[1:] + [len(rows)])
            self.assertEqual(best_on_line(mirrored, many), (total, ends))
            moved = [((colour[0] + 1,), count) for colour, count in rows]
            self.assertEqual(best_on_line(moved, many), (total, begins))
            twice = [(colour, 2 * count) for colour, count in rows]
            self.assertEqual(best_on_line(twice, many), (as_pair(2 * Fraction(*total)), begins))

    def test_more_groups_than_rows(self):
        rng = dice(327)
        for long in (1, 2, 5, 9, 10):
            rows = exactly(rng, long)
            for many in range(long, 11):
                self.assertTrue(alike(best_on_line(rows, many), ((0, 1), list(range(long)))))

    def test_somewhat_beyond_the_bounds_nothing_is_refused(self):
        rows = [((number,), 1) for number in range(-3, 67)]
        self.assertEqual(best_on_line(rows[:5], 0), best_on_line(rows[:5], 1))
        self.assertEqual(best_on_line(rows, 99), ((0, 1), list(range(70))))
        self.assertEqual(best_on_line(rows, 14), ((140, 1), list(range(0, 70, 5))))

    def test_what_is_handed_in_and_told(self):
        rng = dice(328)
        for many in (1, 2, 10):
            for long in (1, 3, 30):
                check_own(self, best_on_line, exactly(rng, long), many)


if __name__ == "__main__":
    unittest.main()
