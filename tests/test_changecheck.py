import unittest

from fewcolours.changecheck import shows_change
from fewcolours.changes import change_paper, least_change
from tests.samples import (ANYTHING, all_pairs, check_own, deep, dice, one_otherwise, plain_apart, plain_cost, some_colours,
                           some_prices, some_thing, some_two)

ONE, OTHER = [(0,), (5,), (9,)], [(6,), (1,)]
LEAST = (2 + 40, [(0, 1), (1, 0)])
SOME = [0, 1, 2, -1, True, False, None, "", "0", (), [], (0,), [0], (0, 0), [0, 0], [(0, 0)], 10 ** 30]


def are_plain_pairs(one, other, pairs):
    if type(pairs) is not list:
        return False
    for pair in pairs:
        if type(pair) is not tuple or len(pair) != 2 or [type(each) for each in pair] != [int, int]:
            return False
        if pair[0] not in range(len(one)) or pair[1] not in range(len(other)):
            return False
    firsts, seconds = [i for i, j in pairs], [j for i, j in pairs]
    return pairs == sorted(pairs) and len(set(firsts)) == len(set(seconds)) == len(pairs)


def is_plain_paper(one, other, price, paper):
    if type(paper) is not tuple or [type(each) for each in paper] != [list, list]:
        return False
    ones, others = paper
    if any(type(each) is not int or each > price for each in ones + others):
        return False
    if (len(ones), len(others)) != (len(one), len(other)):
        return False
    return all(a + b <= plain_apart(colour, aim) for a, colour in zip(ones, one) for b, aim in zip(others, other))


def plain_shows(one, other, price, pairs, paper):
    """What shows_change must tell, straight from point [19]."""
    if not are_plain_pairs(one, other, pairs) or not is_plain_paper(one, other, price, paper):
        return False
    return sum(paper[0]) + sum(paper[1]) == plain_cost(one, other, price, pairs)


class ShowsChange(unittest.TestCase):
    def check_as_plain(self, one, other, price, pairs, paper):
        told = plain_shows(one, other, price, pairs, paper)
        self.assertIs(shows_change(one, other, price, pairs, paper), told, (one, other, price, pairs, paper))
        return told

    def test_told_by_hand(self):
        self.assertEqual(least_change(ONE, OTHER, 40), LEAST)
        for paper in (([1, 1, 40], [0, 0]), ([16, 32, 40], [-31, -15]), ([17, 25, 40], [-31, -16]),
                      ([17, 31, 41], [-31, -16])):
            self.assertIs(shows_change(ONE, OTHER, 40, LEAST[1], paper), False)
        paper = ([17, 32, 40], [-31, -16])
        self.assertIs(shows_change(ONE, OTHER, 40, LEAST[1], paper), True)
        self.assertIs(shows_change(ONE, OTHER, 40, LEAST[1][:1], paper), False)
        self.assertIs(shows_change(ONE, OTHER, 40, [(1, 0), (0, 1)], paper), False)
        self.assertIs(shows_change(ONE, OTHER, 40, LEAST[1], list(paper)), False)
        self.assertIs(shows_change(ONE, OTHER, 39, LEAST[1], paper), False)
        self.assertIs(shows_change([(4,)], [(4,)], 0, [], ([0], [0])), True)
        self.assertIs(shows_change([(4,)], [(4,)], 0, [(0, 0)], ([0], [0])), True)
        self.assertIs(shows_change([(4,)], [(4,)], 1, [(0, 0)], ([1], [-1])), True)
        self.assertIs(shows_change([(4,)], [(4,)], 1, [(0, 0)], ([2], [-2])), False)
        self.assertIs(shows_change([(4,)], [(4,)], 1, [(0, 0)], ([-2], [2])), False)
        self.assertIs(shows_change([(4,)], [(4,)], 1, [(0, 0)], ([-1], [0])), False)
        self.assertIs(shows_change([(4,)], [(4,)], 1, [(0, 0)], ([False], [0])), False)

    def test_of_all_pairs_only_the_least(self):
        rng = dice(421)
        told = {True: 0, False: 0}
        for turn in range(40):
            one, other = some_two(rng, 4)
            for price in some_prices(rng, one, other):
                cost, first = least_change(one, other, price)
                paper = change_paper(one, other, price)
                for pairs in all_pairs(len(one), len(other)):
                    least = plain_cost(one, other, price, pairs) == cost
                    self.assertIs(shows_change(one, other, price, pairs, paper), least)
                    told[least] += 1
        self.assertGreater(min(told.values()), 500)

    def test_of_up_to_twelve_colours(self):
        rng = dice(422)
        for many, more in ((12, 12), (12, 7), (5, 12), (1, 12), (12, 1)):
            one, other = some_colours(rng, 3, many, 0, 99), some_colours(rng, 3, more, 0, 99)
            for price in (0, 700, 10 ** 7):
                cost, pairs = least_change(one, other, price)
                paper = change_paper(one, other, price)
                self.assertIs(shows_change(one, other, price, pairs, paper), True)
                self.assertIs(shows_change(one, other, price + 1, pairs, paper), len(pairs) * 2 == many + more)
                if price > 0:
                    self.assertIs(shows_change(one, other, price, pairs[:-1], paper), False)
                    self.assertIs(shows_change(one, other, price, pairs[1:], paper), False)

    def test_of_one_part_otherwise(self):
        rng = dice(423)
        told = {True: 0, False: 0}
        for turn in range(20):
            one, other = some_two(rng, 3)
            price = rng.choice(some_prices(rng, one, other))
            pairs = least_change(one, other, price)[1]
            paper = change_paper(one, other, price)
            for changed in one_otherwise(pairs, SOME):
                told[self.check_as_plain(one, other, price, changed, paper)] += 1
            for changed in one_otherwise(paper, SOME):
                told[self.check_as_plain(one, other, price, pairs, changed)] += 1
        self.assertGreater(told[True], 5)
        self.assertGreater(told[False], 1000)

    def test_of_two_prices_otherwise(self):
        # What one is less the other is more: the sum stays, and the bounds are left to be looked at.
        rng = dice(424)
        told = {True: 0, False: 0}
        for turn in range(60):
            one, other = some_two(rng, 4)
            price = rng.choice(some_prices(rng, one, other))
            pairs = least_change(one, other, price)[1]
            ones, others = change_paper(one, other, price)
            both = ones + others
            for less in range(len(both)):
                for more in range(len(both)):
                    for by in (1, 2, 500):
                        changed = list(both)
                        changed[less] -= by
                        changed[more] += by
                        paper = (changed[:len(one)], changed[len(one):])
                        told[self.check_as_plain(one, other, price, pairs, paper)] += 1
        self.assertGreater(min(told.values()), 100)

    def test_of_other_papers_and_palettes(self):
        rng = dice(425)
        told = {True: 0, False: 0}
        for turn in range(200):
            one, other = some_two(rng, 3)
            price = rng.choice(some_prices(rng, one, other))
            pairs, paper = least_change(one, other, price)[1], change_paper(one, other, price)
            self.check_as_plain(one, other, price, pairs, paper[::-1])
            self.check_as_plain(other, one, price, pairs, paper)
            told[self.check_as_plain(other, one, price, sorted((j, i) for i, j in pairs), paper[::-1])] += 1
            for more in some_prices(rng, one, other):
                told[self.check_as_plain(one, other, more, pairs, paper)] += 1
                told[self.check_as_plain(one, other, price, pairs, change_paper(one, other, more))] += 1
        self.assertGreater(min(told.values()), 100)

    def test_of_anything(self):
        rng = dice(426)
        paper = change_paper(ONE, OTHER, 40)
        pairs = LEAST[1]
        things = ANYTHING + SOME + [deep(20)]
        things += [some_thing(rng, rng.choice((1, 2, 3, 4, 20))) for turn in range(400)]
        for thing in things:
            for changed in (thing, [thing], [thing, pairs[1]], [pairs[0], thing], [(thing, 1), pairs[1]],
                            [(0, thing), pairs[1]]):
                self.check_as_plain(ONE, OTHER, 40, changed, paper)
            for changed in (thing, (thing, paper[1]), (paper[0], thing), ([thing, *paper[0][1:]], paper[1]),
                            (paper[0], [paper[1][0], thing]), (thing, thing), ([thing] * 3, [thing] * 2)):
                self.check_as_plain(ONE, OTHER, 40, pairs, changed)
            self.check_as_plain(ONE, OTHER, 40, thing, thing)

    def test_true_is_no_one(self):
        one, other = [(0,), (0,)], [(1,), (2,)]
        self.assertIs(shows_change(one, other, 10, [(0, 0), (1, 1)], ([0, 0], [1, 4])), True)
        for pairs in ([(0, 0), (True, 1)], [(0, 0), (1, True)], [(False, 0), (1, 1)], [(0, False), (1, 1)]):
            self.assertIs(shows_change(one, other, 10, pairs, ([0, 0], [1, 4])), False)
        for paper in (([0, False], [1, 4]), ([0, 0], [True, 4])):
            self.assertIs(shows_change(one, other, 10, [(0, 0), (1, 1)], paper), False)

    def test_numbers_of_any_size(self):
        far = 10 ** 40
        self.assertIs(shows_change([(4,)], [(4,)], 5, [(0, 0)], ([-far], [far])), False)
        self.assertIs(shows_change([(4,)], [(4,)], 5, [(0, far)], ([0], [0])), False)
        self.assertIs(shows_change([(4,)], [(4,)], 5, [(-1, 0)], ([0], [0])), False)
        self.assertIs(shows_change([(4,)], [(4,)], 5, [(0, -1)], ([0], [0])), False)
        self.assertIs(shows_change([(4,)], [(4,)], 5, [(-far, -far)], ([0], [0])), False)

    def test_what_is_handed_in_and_told(self):
        check_own(self, shows_change, list(ONE), list(OTHER), 40, LEAST[1][:], change_paper(ONE, OTHER, 40))
        check_own(self, shows_change, list(ONE), list(OTHER), 40, LEAST[1][:], [[1], [2]])


if __name__ == "__main__":
    unittest.main()
