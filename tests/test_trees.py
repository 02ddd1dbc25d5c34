import unittest

from fewcolours.boxes import is_box, near_box
from fewcolours.colours import apart
from fewcolours.looking import nearest, nearest_few, within
from fewcolours.treecheck import is_tree, shows_nearest
from fewcolours.trees import few_in, found_in, tree_of, within_in
from tests.samples import (FAR, alike, any_tree, asked_for, check_own, dice, leaning_tree, plain_box, some_colours,
                           some_palette)


def nodes_of(tree):
    """All nodes of a tree, leaves too."""
    yield tree
    if tree[0] == "node":
        yield from nodes_of(tree[2])
        yield from nodes_of(tree[3])


def numbers_of(tree):
    return [number for node in nodes_of(tree) if node[0] == "leaf" for number in node[2]]


def some_trees(rng, palette):
    """Trees of all the palette's numbers, told by tree_of and parted in other ways."""
    numbers = list(range(len(palette)))
    box = plain_box(palette)
    return [
        tree_of(palette, rng.randint(1, 8)),
        any_tree(rng, palette, numbers, rng.randint(1, 8), True),
        any_tree(rng, palette, numbers, rng.choice((1, 3, 8, 60)), False),
        any_tree(rng, palette, numbers, 60, False),
        leaning_tree(palette, True),
        leaning_tree(palette, False),
        ("leaf", box, tuple(numbers)),
    ]


def some_questions(seed, turns):
    rng = dice(seed)
    for turn in range(turns):
        palette = some_palette(rng, rng.randint(1, 5))
        for tree in some_trees(rng, palette):
            yield rng, tree, palette, asked_for(rng, palette)


class TreeOf(unittest.TestCase):
    def check_tree(self, palette, most):
        tree = tree_of(palette, most)
        for node in nodes_of(tree):
            self.assertIs(type(node), tuple)
            numbers = numbers_of(node)
            self.assertTrue(alike(node[1], plain_box([palette[number] for number in numbers])))
            if node[0] == "leaf":
                self.assertEqual(len(node), 3)
                self.assertIs(type(node[2]), tuple)
                self.assertEqual(list(node[2]), sorted(set(node[2])))
                self.assertIn(len(node[2]), range(1, most + 1))
            else:
                self.assertEqual((node[0], len(node)), ("node", 4))
                self.assertIn(len(numbers_of(node[2])) - len(numbers_of(node[3])), (-1, 0, 1))
        self.assertEqual(sorted(numbers_of(tree)), list(range(len(palette))))
        self.assertIs(is_tree(palette, most, tree), True)

    def test_told_by_hand(self):
        self.assertEqual(tree_of([(7, 3)], 1), ("leaf", ((7, 3), (7, 3)), (0,)))
        self.assertEqual(tree_of([(7, 3), (2, 9)], 2), ("leaf", ((2, 3), (7, 9)), (0, 1)))
        self.assertIn(tree_of([(7,), (2,)], 1), [
            ("node", ((2,), (7,)), ("leaf", ((2,), (2,)), (1,)), ("leaf", ((7,), (7,)), (0,))),
            ("node", ((2,), (7,)), ("leaf", ((7,), (7,)), (0,)), ("leaf", ((2,), (2,)), (1,)))])

    def test_of_one_to_sixty_colours(self):
        rng = dice(111)
        for many in range(1, 61):
            for most in range(1, 9):
                self.check_tree(some_colours(rng, rng.randint(1, 5), many, 0, rng.choice((0, 1, 3, 999))), most)

    def test_of_alike_colours(self):
        for many in (1, 2, 7, 8, 9, 60):
            for most in (1, 3, 8):
                self.check_tree([(4, 4)] * many, most)
                self.check_tree([(4, 4), (5, 4)] * many, most)

    def test_somewhat_beyond_the_bounds_nothing_is_refused(self):
        rng = dice(116)
        for most in (-1, 0, 9, 20, 60, 99):
            for many in (1, 2, 30, 80):
                palette = some_colours(rng, 2, many)
                self.assertEqual(sorted(numbers_of(tree_of(palette, most))), list(range(many)))
        palette = some_colours(rng, 2, 5)
        self.assertEqual(few_in(tree_of(palette, 1), palette, (0, 0), -1), [])
        self.assertEqual(within_in(tree_of(palette, 1), palette, (0, 0), -1), [])

    def test_own(self):
        check_own(self, tree_of, [(1, 2), (5, 2), (1, 2), (0, 9)], 1)
        check_own(self, tree_of, [(1, 2), (5, 2), (1, 2), (0, 9)], 8)


class FoundIn(unittest.TestCase):
    def check_paper(self, tree, palette, colour):
        told = found_in(tree, palette, colour)
        self.assertIs(type(told), tuple)
        number, paper = told
        self.assertIs(type(number), int)
        self.assertIs(type(paper), tuple)
        self.assertEqual(number, nearest(palette, colour))
        looked, passed = paper
        self.assertIs(type(looked), list)
        self.assertEqual(looked, sorted(set(looked)))
        self.assertIs(type(passed), list)
        all_numbers = list(looked)
        square = apart(palette[number], colour)
        for each in passed:
            self.assertIs(type(each), tuple)
            box, numbers = each
            self.assertIs(is_box(box, len(colour)), True)
            self.assertIs(type(numbers), tuple)
            self.assertTrue(numbers)
            self.assertEqual(list(numbers), sorted(set(numbers)))
            all_numbers.extend(numbers)
            least, greatest = plain_box([palette[one] for one in numbers])
            self.assertTrue(all(a <= b for a, b in zip(box[0], least)))
            self.assertTrue(all(a >= b for a, b in zip(box[1], greatest)))
            self.assertTrue(near_box(colour, box) > square or (near_box(colour, box) == square and numbers[0] > number))
        self.assertEqual(sorted(all_numbers), list(range(len(palette))))
        self.assertIn(number, looked)
        for node in nodes_of(tree):
            if node[0] == "leaf" and set(node[2]) & set(looked):
                self.assertLessEqual(near_box(colour, node[1]), square)
        self.assertIs(shows_nearest(palette, colour, number, paper), True)

    def test_told_by_hand(self):
        palette = [(0,), (10,), (20,), (30,)]
        tree = tree_of(palette, 1)
        number, (looked, passed) = found_in(tree, palette, (11,))
        self.assertEqual((number, looked), (1, [1]))
        self.assertEqual(sorted(one for box, numbers in passed for one in numbers), [0, 2, 3])
        self.assertEqual(found_in(("leaf", ((0,), (30,)), (0, 1, 2, 3)), palette, (26,)), (3, ([0, 1, 2, 3], [])))

    def test_a_tie_with_a_lesser_number_is_looked_for(self):
        palette = [(2,), (0,), (2,), (0,)]
        for tree in some_trees(dice(112), palette):
            self.check_paper(tree, palette, (1,))

    def test_of_any_tree(self):
        for rng, tree, palette, colour in some_questions(113, 260):
            self.check_paper(tree, palette, colour)

    def test_far_off(self):
        rng = dice(114)
        palette = some_colours(rng, 3, 60)
        for tree in some_trees(rng, palette):
            for colour in ((FAR, FAR, FAR), (-FAR, -FAR, -FAR), (FAR, -FAR, 500), (0, 0, -FAR)):
                self.check_paper(tree, palette, colour)

    def test_something_is_passed_over(self):
        rng = dice(115)
        palette = some_colours(rng, 2, 60)
        for turn in range(20):
            number, (looked, passed) = found_in(tree_of(palette, 1), palette, rng.choice(palette))
            self.assertLess(len(looked), 10)

    def test_own(self):
        palette = [(1, 2), (5, 2), (1, 2), (0, 9)]
        for most in (1, 4):
            check_own(self, found_in, tree_of(palette, most), list(palette), (4, 4))


class FewIn(unittest.TestCase):
    def test_told_by_hand(self):
        palette = [(5,), (0,), (3,), (0,)]
        for tree in some_trees(dice(121), palette):
            for many, told in ((0, []), (1, [1]), (2, [1, 3]), (3, [1, 3, 2]), (4, [1, 3, 2, 0]),
                               (5, [1, 3, 2, 0]), (999999999, [1, 3, 2, 0])):
                self.assertEqual(few_in(tree, palette, (1,), many), told)

    def test_of_any_tree(self):
        for rng, tree, palette, colour in some_questions(122, 150):
            for many in (0, 1, 2, rng.randint(0, 60), len(palette) - 1, len(palette), len(palette) + 1):
                told = few_in(tree, palette, colour, many)
                self.assertTrue(alike(told, nearest_few(palette, colour, many)))

    def test_own(self):
        palette = [(1, 2), (5, 2), (1, 2), (0, 9)]
        for many in (0, 1, 4, 9):
            check_own(self, few_in, tree_of(palette, 2), list(palette), (4, 4), many)


class WithinIn(unittest.TestCase):
    def test_told_by_hand(self):
        palette = [(5, 0), (0, 0), (3, 4), (0, 5), (9, 9)]
        for tree in some_trees(dice(131), palette):
            for square, told in ((0, [1]), (24, [1]), (25, [0, 1, 2, 3]), (161, [0, 1, 2, 3]), (162, [0, 1, 2, 3, 4])):
                self.assertEqual(within_in(tree, palette, (0, 0), square), told)

    def test_of_any_tree(self):
        for rng, tree, palette, colour in some_questions(132, 150):
            some = apart(rng.choice(palette), colour)
            for square in (0, max(some - 1, 0), some, some + 1, 999999999):
                told = within_in(tree, palette, colour, square)
                self.assertTrue(alike(told, within(palette, colour, square)))

    def test_own(self):
        palette = [(1, 2), (5, 2), (1, 2), (0, 9)]
        for square in (0, 13, 999):
            check_own(self, within_in, tree_of(palette, 2), list(palette), (4, 4), square)


if __name__ == "__main__":
    unittest.main()
