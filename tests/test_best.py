import itertools
import unittest
from fractions import Fraction

from fewcolours.best import best_groups, best_paper, total_of
from fewcolours.middles import spread_of
from tests.samples import (CROSS, GRID, LIKE, LINE, alike, as_pair, check_own, dice, plain_spread, some_few_rows,
                           some_rows)


def all_groups(rows):
    """All groups of the rows, as they are told."""
    if len(rows) == 0:
        yield []
        return
    first, others = rows[0], rows[1:]
    for many in range(len(others) + 1):
        for beside in itertools.combinations(others, many):
            rest = [row for row in others if row not in beside]
            for groups in all_groups(rest):
                yield [[first, *beside]] + groups


def plain_best(rows, manies):
    """For each of manies what best_groups tells of it, by going through all groups."""
    known = {}
    best = {many: None for many in manies}
    for groups in all_groups(rows):
        total = Fraction(0)
        for group in groups:
            key = tuple(group)
            if key not in known:
                known[key] = plain_spread(group)
            total += known[key]
        for many in manies:
            if len(groups) <= many and (best[many] is None or (total, groups) < best[many]):
                best[many] = (total, groups)
    return {many: (as_pair(total), groups) for many, (total, groups) in best.items()}


class TotalOf(unittest.TestCase):
    def test_told_by_hand(self):
        self.assertEqual(total_of([[((0,), 1), ((1,), 1)], [((5,), 9)]]), (1, 2))
        self.assertEqual(total_of([[((0,), 1), ((1,), 1)], [((5,), 1), ((6,), 2)]]), (7, 6))
        self.assertEqual(total_of([[((5, 5), 9)]]), (0, 1))

    def test_of_many_groups(self):
        rng = dice(231)
        for turn in range(60):
            rows = some_rows(rng, rng.randint(1, 5), rng.choice((1, 5, 60)), 0, rng.choice((3, 999)))
            labels = [rng.randrange(4) for row in rows]
            groups = [[row for row, label in zip(rows, labels) if label == one] for one in sorted(set(labels))]
            groups.sort()
            self.assertTrue(alike(total_of(groups), as_pair(sum(map(plain_spread, groups), Fraction(0)))))


class BestGroups(unittest.TestCase):
    def test_told_by_hand(self):
        rows = [((0,), 1), ((1,), 1), ((10,), 1), ((11,), 1)]
        self.assertEqual(best_groups(rows, 1), ((101, 1), [rows]))
        self.assertEqual(best_groups(rows, 2), ((1, 1), [rows[:2], rows[2:]]))
        self.assertEqual(best_groups(rows, 3), ((1, 2), [rows[:1], rows[1:2], rows[2:]]))
        self.assertEqual(best_groups(rows, 4), ((0, 1), [[row] for row in rows]))
        self.assertEqual(best_groups([((3, 4), 9)], 1), ((0, 1), [[((3, 4), 9)]]))

    def test_more_groups_than_rows(self):
        for many in (1, 2, 3, 4):
            for rows in (LINE[:1], LINE[:2], LINE[:3], LINE[:4]):
                total, groups = best_groups(rows, many)
                self.assertEqual(len(groups), min(many, len(rows)))
                if many >= len(rows):
                    self.assertEqual((total, groups), ((0, 1), [[row] for row in rows]))

    def test_equal_totals_are_told_by_the_first_groups(self):
        rows = [((0,), 1), ((1,), 1), ((2,), 1)]
        self.assertEqual(best_groups(rows, 2), ((1, 2), [rows[:1], rows[1:]]))
        square = [((0, 0), 1), ((0, 1), 1), ((1, 0), 1), ((1, 1), 1)]
        self.assertEqual(best_groups(square, 2), ((1, 1), [square[:2], square[2:]]))
        self.assertEqual(best_groups(square, 3), ((1, 2), [square[:1], square[1:2], square[2:]]))

    def test_groups_need_not_be_boxes_side_by_side(self):
        rows = [((0, 5), 1), ((1, 0), 50), ((2, 9), 1), ((3, 0), 50), ((4, 5), 1)]
        self.assertEqual(best_groups(rows, 2)[1], [[rows[0], rows[2], rows[4]], [rows[1], rows[3]]])

    def test_like_squares(self):
        for rows in LIKE:
            few = rows if len(rows) < 9 else rows[:8]
            plain = plain_best(few, (1, 2, 3, 4))
            for many in (1, 2, 3, 4):
                self.assertTrue(alike(best_groups(few, many), plain[many]))

    def test_nine_like_squares(self):
        for rows in (GRID, CROSS):
            plain = plain_best(rows, (1, 2, 3, 4))
            for many in (1, 2, 3, 4):
                self.assertTrue(alike(best_groups(rows, many), plain[many]))
        for many in (1, 2, 3, 4):
            total, groups = best_groups(LINE, many)
            size, more = divmod(9, many)
            sizes = sorted([size + 1] * more + [size] * (many - more))
            self.assertEqual([len(group) for group in groups], sizes)
            self.assertEqual([row for group in groups for row in group], LINE)

    def test_up_to_six_rows(self):
        rng = dice(232)
        for turn in range(150):
            rows = some_few_rows(rng, rng.randint(1, 6))
            plain = plain_best(rows, (1, 2, 3, 4))
            for many in (1, 2, 3, 4):
                told = best_groups(rows, many)
                self.assertIs(type(told), tuple)
                self.assertTrue(alike(told, plain[many]))

    def test_up_to_nine_rows(self):
        rng = dice(233)
        for turn in range(8):
            rows = some_few_rows(rng, rng.choice((7, 8, 9)))
            plain = plain_best(rows, (1, 2, 3, 4))
            for many in (1, 2, 3, 4):
                self.assertTrue(alike(best_groups(rows, many), plain[many]))

    def test_somewhat_beyond_the_bounds_nothing_is_refused(self):
        self.assertEqual(best_groups(LINE[:3], 0), best_groups(LINE[:3], 1))
        self.assertEqual(best_groups(LINE, 5)[0], (2, 1))
        self.assertEqual(best_groups(LINE, 99)[0], (0, 1))
        self.assertEqual(best_groups(LINE + [((9,), 1)], 3)[0], (9, 1))

    def test_counts_weigh(self):
        rows = [((0,), 1), ((10,), 1000), ((15,), 1000), ((30,), 1)]
        self.assertEqual(best_groups(rows, 2)[1], [rows[:2], rows[2:]])
        rows = [((0,), 1), ((10,), 1), ((15,), 1), ((30,), 1)]
        self.assertEqual(best_groups(rows, 2)[1], [rows[:3], rows[3:]])
        rows = [((0,), 1000), ((1,), 1000), ((100,), 1), ((130,), 1)]
        self.assertEqual(best_groups(rows, 3)[1], [rows[:1], rows[1:2], rows[2:]])


class BestPaper(unittest.TestCase):
    def walk(self, rows, many, total, tree, groups, left):
        """Goes through the tree of bounds as point [14] says; tells how many ends it has."""
        self.assertIs(type(tree), tuple)
        if tree[0] == "dear":
            self.assertEqual(len(tree), 1)
            so_far = sum((Fraction(*spread_of(sorted(group))) for group in groups), Fraction(0))
            self.assertGreaterEqual(so_far, total)
            return 1
        word, place, trees = tree
        self.assertEqual(word, "next")
        self.assertIs(type(place), int)
        self.assertIn(place, left)
        self.assertIs(type(trees), tuple)
        self.assertEqual(len(trees), len(groups) + (len(groups) < many))
        ends = 0
        for at, below in enumerate(trees):
            grown = [list(group) for group in groups] + ([[]] if at == len(groups) else [])
            grown[at].append(rows[place])
            ends += self.walk(rows, many, total, below, grown, left - {place})
        return ends

    def check_paper(self, rows, many):
        total = Fraction(*best_groups(rows, many)[0])
        return self.walk(rows, many, total, best_paper(rows, many), [], set(range(len(rows))))

    def test_told_by_hand(self):
        self.assertEqual(best_paper(LINE[:1], 1), ("dear",))
        for many in (1, 2, 3, 4):
            self.assertEqual(best_paper(LINE[:many], many), ("dear",))
        self.assertIn(best_paper(LINE[:2], 1), [("next", 0, (("next", 1, (("dear",),)),)),
                                                ("next", 1, (("next", 0, (("dear",),)),))])

    def test_of_few_rows(self):
        rng = dice(241)
        for turn in range(200):
            rows = some_few_rows(rng, rng.randint(1, 6))
            for many in (1, 2, 3, 4):
                self.check_paper(rows, many)

    def test_of_nine_rows(self):
        rng = dice(242)
        for turn in range(10):
            rows = some_few_rows(rng, 9)
            for many in (1, 2, 3, 4):
                self.check_paper(rows, many)

    def test_like_squares(self):
        for rows in LIKE:
            for many in (1, 2, 3, 4):
                self.check_paper(rows, many)

    def test_what_is_dear_is_not_gone_on_with(self):
        rows = [((0,), 1000), ((1,), 1000), ((500,), 1000), ((501,), 1000), ((998,), 1000), ((999,), 1000)]
        self.assertLess(self.check_paper(rows, 3), 60)

    def test_at_most_twenty_deep(self):
        def depth(thing):
            return 1 + max(map(depth, thing), default=0) if isinstance(thing, tuple) else 0
        for rows in (GRID, LINE, CROSS):
            for many in (1, 2, 3, 4):
                self.assertLessEqual(depth(best_paper(rows, many)), 20)


class Own(unittest.TestCase):
    def test_what_is_handed_in_and_told(self):
        for many in (1, 2, 3, 4):
            for rows in (LINE[:1], LINE[:3], GRID):
                check_own(self, best_groups, list(rows), many)
                check_own(self, best_paper, list(rows), many)
                check_own(self, total_of, best_groups(rows, many)[1])


if __name__ == "__main__":
    unittest.main()
