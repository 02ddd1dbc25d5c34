import time
import unittest

from fewcolours.changecheck import shows_change
from fewcolours.changes import change_paper, cost_of, least_change
from tests.samples import (DEAREST, all_pairs, alike, check_own, dice, plain_apart, plain_cost, some_colour, some_colours,
                           some_prices, some_two)


def plain_least(one, other, price):
    return min((plain_cost(one, other, price, pairs), pairs) for pairs in all_pairs(len(one), len(other)))


class CostOf(unittest.TestCase):
    def test_told_by_hand(self):
        one, other = [(0, 0), (3, 4)], [(3, 4), (1, 0), (9, 9)]
        self.assertEqual(cost_of(one, other, 7, []), 35)
        self.assertEqual(cost_of(one, other, 7, [(0, 0)]), 25 + 21)
        self.assertEqual(cost_of(one, other, 7, [(0, 1), (1, 0)]), 1 + 0 + 7)
        self.assertEqual(cost_of(one, other, 0, [(1, 2)]), 36 + 25)

    def test_of_all_pairs(self):
        rng = dice(401)
        for turn in range(30):
            one, other = some_two(rng, 4)
            for price in some_prices(rng, one, other):
                for pairs in all_pairs(len(one), len(other)):
                    self.assertTrue(alike(cost_of(one, other, price, pairs), plain_cost(one, other, price, pairs)))

    def test_of_sixty_colours(self):
        rng = dice(402)
        one, other = some_colours(rng, 3, 60), some_colours(rng, 3, 60)
        pairs = list(zip(range(0, 60, 2), rng.sample(range(60), 30)))
        self.assertEqual(cost_of(one, other, 999, pairs), plain_cost(one, other, 999, pairs))

    def test_what_is_handed_in_and_told(self):
        check_own(self, cost_of, [(1,), (5,)], [(2,), (9,)], 3, [(0, 1), (1, 0)])


class LeastChange(unittest.TestCase):
    def test_told_by_hand(self):
        self.assertEqual(least_change([(0,)], [(0,)], 5), (0, [(0, 0)]))
        self.assertEqual(least_change([(0,)], [(3,)], 5), (9, [(0, 0)]))
        self.assertEqual(least_change([(0,)], [(3,)], 4), (8, []))
        self.assertEqual(least_change([(0,), (10,)], [(11,), (1,)], 50), (2, [(0, 1), (1, 0)]))
        self.assertEqual(least_change([(0,), (10,), (50,)], [(11,), (1,)], 50), (52, [(0, 1), (1, 0)]))
        self.assertEqual(least_change([(4, 4)], [(0, 0), (4, 4), (4, 4)], 3), (6, [(0, 1)]))

    def test_of_equal_costs_the_first_pairs(self):
        # Two prices are as much as the colours are apart: the empty list stands first.
        self.assertEqual(least_change([(0,)], [(2,)], 2), (4, []))
        self.assertEqual(least_change([(0,), (0,)], [(0,), (2,)], 2), (4, [(0, 0)]))
        # The pair of the first colour is needed for none, but stands ahead of that of the second one.
        self.assertEqual(least_change([(0,), (9,)], [(2,), (9,)], 2), (4, [(0, 0), (1, 1)]))
        self.assertEqual(least_change([(9,), (0,)], [(9,), (2,)], 2), (4, [(0, 0)]))
        self.assertEqual(least_change([(0,), (4,), (9,)], [(2,), (9,)], 2), (6, [(0, 0), (2, 1)]))
        self.assertEqual(least_change([(5,)] * 3, [(5,)] * 3, 1), (0, [(0, 0), (1, 1), (2, 2)]))
        self.assertEqual(least_change([(5,)] * 3, [(5,)] * 2, 1), (1, [(0, 0), (1, 1)]))
        self.assertEqual(least_change([(5,)] * 2, [(5,)] * 3, 1), (1, [(0, 0), (1, 1)]))
        self.assertEqual(least_change([(1,), (3,)], [(2,), (2,)], 9), (2, [(0, 0), (1, 1)]))
        self.assertEqual(least_change([(0,), (2,)], [(1,), (3,)], 9), (2, [(0, 0), (1, 1)]))
        self.assertEqual(least_change([(1,), (7,)], [(7,), (1,)], 0), (0, []))

    def test_of_up_to_four_colours(self):
        rng = dice(403)
        for turn in range(250):
            one, other = some_two(rng, 4)
            for price in some_prices(rng, one, other):
                told = least_change(one, other, price)
                self.assertIs(type(told), tuple)
                self.assertTrue(alike(told, plain_least(one, other, price)), (one, other, price))

    def test_of_up_to_five_colours(self):
        rng = dice(404)
        for turn in range(40):
            one, other = some_two(rng, 5)
            for price in some_prices(rng, one, other):
                self.assertTrue(alike(least_change(one, other, price), plain_least(one, other, price)))

    def test_of_twelve_colours_on_a_line(self):
        # On a line, where no price is too dear, the colours are turned to one another as they rise.
        rng = dice(405)
        for turn in range(4):
            one = [(number,) for number in rng.sample(range(1000), 12)]
            other = [(number,) for number in rng.sample(range(1000), 12)]
            ranks = sorted(range(12), key=lambda j: other[j])
            pairs = [(i, ranks[sorted(one).index(colour)]) for i, colour in enumerate(one)]
            cost, told = least_change(one, other, DEAREST)
            self.assertEqual(cost, plain_cost(one, other, DEAREST, pairs))
            self.assertEqual(plain_cost(one, other, DEAREST, told), cost)
            self.assertEqual(len(told), 12)

    def test_of_twelve_colours_in_good_time(self):
        rng = dice(406)
        begun = time.process_time()
        for high in (2, 999):
            for price in (0, 5, 10 ** 5, DEAREST):
                one, other = some_colours(rng, 5, 12, 0, high), some_colours(rng, 5, 12, 0, high)
                cost, pairs = least_change(one, other, price)
                self.assertEqual(cost, plain_cost(one, other, price, pairs))
        self.assertLess(time.process_time() - begun, 20)

    def test_the_first_pairs_of_twelve_alike_colours(self):
        one = [(5, 5)] * 12
        self.assertEqual(least_change(one, one, 1), (0, [(i, i) for i in range(12)]))
        self.assertEqual(least_change(one, one[:5], 1), (7, [(i, i) for i in range(5)]))
        self.assertEqual(least_change(one[:5], one, 1), (7, [(i, i) for i in range(5)]))
        self.assertEqual(least_change(one, one, 0), (0, []))
        other = [(5, 5), (9, 9)] * 6
        self.assertEqual(least_change(one, other, 3), (36, [(i, 2 * i) for i in range(6)]))
        self.assertEqual(least_change(other, one, 3), (36, [(2 * i, i) for i in range(6)]))
        # Two prices are as much as these are apart, so each of one's first ones may be turned to any.
        self.assertEqual(least_change(other, one, 16), (192, [(i, i) for i in range(11)]))
        self.assertEqual(least_change(other[::-1], one, 16), (192, [(i, i) for i in range(12)]))

    def test_the_other_way_about_costs_the_same(self):
        rng = dice(407)
        for turn in range(100):
            one, other = some_two(rng, 7)
            for price in some_prices(rng, one, other):
                self.assertEqual(least_change(one, other, price)[0], least_change(other, one, price)[0])

    def test_to_itself_in_another_order(self):
        rng = dice(408)
        for turn in range(30):
            one = some_colours(rng, rng.randint(1, 5), rng.randint(1, 9), 0, rng.choice((1, 999)))
            other = rng.sample(one, len(one))
            for price in (0, 1, 500, DEAREST):
                cost, pairs = least_change(one, other, price)
                self.assertEqual(cost, 0)
                self.assertEqual([one[i] for i, j in pairs], [other[j] for i, j in pairs])
                self.assertEqual(len(pairs), len(one) if price else 0)

    def test_what_is_least_is_moved_along(self):
        rng = dice(409)
        for turn in range(30):
            one, other = some_two(rng, 6)
            wide = len(one[0])
            by = some_colour(rng, wide, -3, 3)
            order = rng.sample(range(wide), wide)
            moved = [[tuple(a + b for a, b in zip(colour, by)) for colour in each] for each in (one, other)]
            turned = [[tuple(colour[place] for place in order) for colour in each] for each in (one, other)]
            mirrored = [[tuple(-number for number in colour) for colour in each] for each in (one, other)]
            for price in some_prices(rng, one, other):
                told = least_change(one, other, price)
                for both in (moved, turned, mirrored):
                    self.assertTrue(alike(least_change(*both, price), told))

    def test_somewhat_beyond_the_bounds_nothing_is_refused(self):
        rng = dice(410)
        one, other = some_colours(rng, 2, 13), some_colours(rng, 2, 14)
        cost, pairs = least_change(one, other, DEAREST + 5)
        self.assertEqual(cost, plain_cost(one, other, DEAREST + 5, pairs))
        self.assertIs(shows_change(one, other, DEAREST + 5, pairs, change_paper(one, other, DEAREST + 5)), True)
        cost, pairs = least_change(one[:2], some_colours(rng, 2, 60), 900)
        self.assertLessEqual(len(pairs), 2)

    def test_what_is_handed_in_and_told(self):
        for price in (0, 2, 500):
            check_own(self, least_change, [(1, 1), (5, 5)], [(2, 2), (9, 9), (1, 1)], price)


class ChangePaper(unittest.TestCase):
    def check_paper(self, one, other, price):
        """Checks the prices straight from point [19]; tells their sum."""
        paper = change_paper(one, other, price)
        self.assertIs(type(paper), tuple)
        self.assertEqual([type(each) for each in paper], [list, list])
        ones, others = paper
        self.assertEqual((len(ones), len(others)), (len(one), len(other)))
        for each in ones + others:
            self.assertIs(type(each), int)
            self.assertLessEqual(each, price)
        for colour, a in zip(one, ones):
            for aim, b in zip(other, others):
                self.assertLessEqual(a + b, plain_apart(colour, aim))
        cost, pairs = least_change(one, other, price)
        self.assertEqual(sum(ones) + sum(others), cost)
        self.assertIs(shows_change(one, other, price, pairs, paper), True)

    def test_of_few_colours(self):
        rng = dice(411)
        for turn in range(200):
            one, other = some_two(rng, 6)
            for price in some_prices(rng, one, other):
                self.check_paper(one, other, price)

    def test_of_up_to_twelve_colours(self):
        # As no pairs cost less than such prices are together, this shows the cost to be the least, too.
        rng = dice(412)
        for turn in range(12):
            one, other = some_two(rng, 12)
            self.check_paper(one, other, rng.choice(some_prices(rng, one, other)))
        for high in (1, 30, 999):
            one, other = some_colours(rng, 3, 12, 0, high), some_colours(rng, 3, 12, 0, high)
            for price in (0, high * high // 4, DEAREST):
                self.check_paper(one, other, price)

    def test_what_is_handed_in_and_told(self):
        for price in (0, 2, 500):
            check_own(self, change_paper, [(1, 1), (5, 5)], [(2, 2), (9, 9), (1, 1)], price)


if __name__ == "__main__":
    unittest.main()
