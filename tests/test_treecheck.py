import unittest

from fewcolours.boxes import near_box
from fewcolours.colours import apart
from fewcolours.looking import nearest
from fewcolours.treecheck import is_tree, shows_nearest
from fewcolours.trees import found_in, tree_of
from tests.samples import (ANYTHING, alike, any_tree, asked_for, deep, dice, leaning_tree, one_otherwise, plain_box,
                           some_colours, some_palette, some_thing, with_part)

PALETTE = [(3, 1), (1, 1), (0, 4), (9, 9), (1, 1)]


def leaf(palette, *numbers):
    return ("leaf", plain_box([palette[number] for number in numbers]), numbers)


def node(palette, one, other):
    low = tuple(map(min, one[1][0], other[1][0]))
    high = tuple(map(max, one[1][1], other[1][1]))
    return ("node", (low, high), one, other)


class IsTree(unittest.TestCase):
    def take(self, thing, palette=PALETTE, most=2):
        self.assertIs(is_tree(palette, most, thing), True, thing)

    def refuse(self, thing, palette=PALETTE, most=2):
        self.assertIs(is_tree(palette, most, thing), False, thing)

    def test_whichever_way_it_is_halved(self):
        rng = dice(141)
        for turn in range(300):
            palette = some_palette(rng, rng.randint(1, 5))
            most = rng.randint(1, 8)
            numbers = list(range(len(palette)))
            self.take(any_tree(rng, palette, numbers, most, True), palette, most)
            self.take(any_tree(rng, palette, numbers, 1, True), palette, most)
            self.take(tree_of(palette, most), palette, most)
            self.take(tree_of(palette, 1), palette, most)

    def test_told_by_hand(self):
        p = PALETTE
        self.take(node(p, node(p, leaf(p, 0), leaf(p, 3)), node(p, leaf(p, 1, 4), leaf(p, 2))))
        self.take(node(p, node(p, leaf(p, 1, 4), leaf(p, 2)), node(p, leaf(p, 3), leaf(p, 0))))
        self.take(node(p, leaf(p, 0, 3), node(p, leaf(p, 2), leaf(p, 1, 4))))
        self.take(node(p, leaf(p, 0, 3), leaf(p, 1, 2, 4)), most=3)
        self.take(leaf(p, 0, 1, 2, 3, 4), most=5)
        self.take(leaf([(7,)], 0), [(7,)], 1)

    def test_halves_that_differ_by_two(self):
        p = PALETTE
        self.refuse(node(p, leaf(p, 0), leaf(p, 1, 2, 3, 4)), most=8)
        self.refuse(node(p, node(p, leaf(p, 0), leaf(p, 1, 2, 3)), leaf(p, 4)), most=8)
        self.refuse(leaning_tree(p, True), most=8)
        self.refuse(leaning_tree(p, False), most=8)
        q = p[:4]
        self.refuse(node(q, leaf(q, 0), leaf(q, 1, 2, 3)), q, 8)
        self.refuse(node(q, leaf(q, 1, 2, 3), leaf(q, 0)), q, 8)
        self.take(leaning_tree(p[:3], True), p[:3], 8)

    def test_leaves_with_too_many(self):
        p = PALETTE
        tree = node(p, leaf(p, 0, 3), leaf(p, 1, 2, 4))
        self.take(tree, most=3)
        self.refuse(tree, most=2)
        self.refuse(tree, most=1)
        self.refuse(leaf(p, 0, 1, 2, 3, 4), most=4)

    def test_numbers_twice_left_out_and_too_many(self):
        p = PALETTE
        self.refuse(node(p, leaf(p, 0, 3), leaf(p, 1, 2)))
        self.refuse(node(p, leaf(p, 0, 3), leaf(p, 1, 2, 3)), most=3)
        self.refuse(node(p, leaf(p, 0, 3, 4), leaf(p, 1, 2, 4)), most=3)
        self.refuse(node(p, leaf(p, 0, 3), node(p, leaf(p, 1, 2), leaf(p, 1))))
        self.refuse(leaf(p, 0, 1, 2, 3, 4), p[:4], 8)
        self.refuse(leaf(p, 0, 1, 2, 3), most=8)
        self.refuse(leaf(p, 1, 2, 3, 4), most=8)
        for numbers in ((0, 1, 2, 3, 5), (-1, 0, 1, 2, 3, 4), (0, 1, 1, 2, 3, 4), (0, 1, 2, 4, 3), (4, 3, 2, 1, 0), (),
                        (0, 1, 2, 3, 4, 5), (0, 1, 2, 3, 10 ** 30), (0, True, 2, 3, 4), (False, 1, 2, 3, 4),
                        (0, 1, 2, 3, "4"), (0, 1, 2, 3, None), (0, 1, 2, 3, [4]), [0, 1, 2, 3, 4], "01234"):
            self.refuse(("leaf", plain_box(p), numbers), most=8)

    def test_boxes_greater_less_and_as_lists(self):
        p = PALETTE
        (a, b), (c, d) = plain_box(p)
        numbers = (0, 1, 2, 3, 4)
        self.take(("leaf", ((a, b), (c, d)), numbers), most=8)
        for box in (((a - 1, b), (c, d)), ((a + 1, b), (c, d)), ((a, b - 1), (c, d)), ((a, b + 1), (c, d)),
                    ((a, b), (c + 1, d)), ((a, b), (c - 1, d)), ((a, b), (c, d + 1)), ((a, b), (c, d - 1)),
                    ((c, d), (a, b)), [(a, b), (c, d)], ([a, b], (c, d)), ((a, b), [c, d]), ((a, True), (c, d)),
                    ((False, b), (c, d)), ((a, b),), ((a, b), (c, d), (c, d)), ((a,), (c,)), ((a, b, 0), (c, d, 0)),
                    (), None):
            self.refuse(("leaf", box, numbers), most=8)

    def test_one_side_alone_and_other_words(self):
        p = PALETTE
        one, other, box = leaf(p, 0, 1), leaf(p, 2, 3, 4), plain_box(p)
        self.take(("node", box, one, other), most=3)
        for thing in (("node", box, one), ("node", box, other), ("node", box, one, other, other), ("leaf", box, one, other),
                      ("node", box, (one, other)), ("node", box, [one, other]), ("Node", box, one, other),
                      ("", box, one, other), (None, box, one, other), ["node", box, one, other],
                      ("node", box, list(one), other), ("node", box, one, None), ("node", box, (), other),
                      ("node", one, other), ("node", box, box, one, other), (("node",), box, one, other),
                      ("node", box, one, (0, 1, 2, 3, 4)), (box, one, other), ("leaf", box), ("node", box), ("node",),
                      ("node", box, (0, 1, 2, 3, 4)), ("leaf", box, (0, 1, 2, 3, 4), ()), ("leaf", (0, 1, 2, 3, 4))):
            self.refuse(thing, most=8)
        self.refuse(("node", one[1], one), p[:2], 8)

    def test_one_side_of_a_palette_of_one_colour(self):
        palette = [(4,)]
        tree = leaf(palette, 0)
        self.take(tree, palette)
        for side in (None, (), [], tree, ("leaf", tree[1], ()), ("leaf", tree[1], (1,)), list(tree)):
            self.refuse(("node", tree[1], tree, side), palette)
            self.refuse(("node", tree[1], side, tree), palette)

    def test_one_part_otherwise_at_any_depth(self):
        rng = dice(142)
        for turn in range(6):
            palette = some_colours(rng, rng.randint(1, 3), rng.choice((1, 2, 3, 5, 7)), 0, rng.choice((1, 9)))
            most = rng.randint(1, 3)
            tree = any_tree(rng, palette, list(range(len(palette))), most, True)
            self.take(tree, palette, most)
            for changed in one_otherwise(tree, ANYTHING):
                # Two sides may change their places: so turned about a tree is a tree still.
                if not self.is_turned(tree, changed):
                    self.refuse(changed, palette, most)

    def is_turned(self, tree, changed):
        return alike(self.in_order(tree), self.in_order(changed))

    def in_order(self, thing):
        if type(thing) is tuple and len(thing) == 4 and thing[0] == "node":
            return thing[:2] + tuple(sorted((self.in_order(thing[2]), self.in_order(thing[3])), key=repr))
        return thing

    def test_anything(self):
        rng = dice(143)
        for palette in ([(0,)], [(0,), (1,)], PALETTE):
            for thing in ANYTHING:
                if not alike(thing, leaf([(0,)], 0)):
                    self.refuse(thing, palette)
                for word in ("leaf", "node"):
                    self.refuse((word, thing, thing), palette)
                    self.refuse((word, plain_box(palette), thing, thing), palette)
                    self.refuse((word, thing, thing, thing), palette)
            for turn in range(1500):
                self.refuse(some_thing(rng, rng.randint(0, 6)), palette)
        self.take(("leaf", ((0,), (0,)), (0,)), [(0,)])
        self.refuse(("node", plain_box(PALETTE), deep(19), deep(19)))

    def test_twenty_deep(self):
        thing = ("leaf", ((0,), (0,)), (0,))
        for level in range(18):
            thing = ("node", ((0,), (0,)), thing, thing)
            self.refuse(thing, [(0,), (0,)])


def plainly_shown(palette, colour, number, paper):
    """The same as shows_nearest, of a paper whose kinds are right."""
    looked, passed = paper
    numbers = looked + [one for box, some in passed for one in some]
    if sorted(numbers) != list(range(len(palette))) or looked != sorted(looked) or number not in looked:
        return False
    square = apart(palette[number], colour)
    for other in looked:
        if apart(palette[other], colour) < square or (apart(palette[other], colour) == square and other < number):
            return False
    for (low, high), some in passed:
        if not some or list(some) != sorted(some) or any(a > b for a, b in zip(low, high)):
            return False
        for one in some:
            if any(not a <= n <= b for a, n, b in zip(low, palette[one], high)):
                return False
            near = near_box(colour, (low, high))
            if near < square or (near == square and one < number):
                return False
    return True


class ShowsNearest(unittest.TestCase):
    palette = [(0, 0), (10, 0), (0, 10), (10, 10), (0, 0), (30, 30), (31, 30)]
    colour = (1, 1)
    paper = ([0, 1], [(((0, 10), (0, 10)), (2,)), (((10, 10), (31, 30)), (3, 5, 6)), (((0, 0), (0, 0)), (4,))])

    def take(self, paper, number=0, palette=None, colour=None):
        self.assertIs(shows_nearest(palette or self.palette, colour or self.colour, number, paper), True, paper)

    def refuse(self, paper, number=0, palette=None, colour=None):
        self.assertIs(shows_nearest(palette or self.palette, colour or self.colour, number, paper), False, paper)

    def test_of_what_found_in_tells(self):
        rng = dice(151)
        for turn in range(200):
            palette = some_palette(rng, rng.randint(1, 5))
            colour = asked_for(rng, palette)
            number, paper = found_in(tree_of(palette, rng.randint(1, 8)), palette, colour)
            self.take(paper, number, palette, colour)
            for other in range(-1, len(palette) + 1):
                if other != number:
                    self.refuse(paper, other, palette, colour)

    def test_all_looked_at(self):
        rng = dice(152)
        for turn in range(100):
            palette = some_palette(rng, rng.randint(1, 5))
            colour = asked_for(rng, palette)
            self.take((list(range(len(palette))), []), nearest(palette, colour), palette, colour)
            self.refuse((list(range(len(palette))), []), nearest(palette, colour) + 1, palette, colour)

    def test_told_by_hand(self):
        self.take(self.paper)
        looked, passed = self.paper
        self.take((looked, passed[::-1]))
        self.take(([0, 1, 2], passed[1:]))
        self.take(([0, 1, 2, 4], passed[1:2]))
        # Greater boxes and boxes with more numbers are as good, as long as they are not too near.
        self.take((looked, [(((-5, 10), (99, 99)), (2, 3, 5, 6)), (((0, 0), (0, 0)), (4,))]))
        self.take((looked, passed[:1] + [(((10, 10), (10, 10)), (3,)), (((30, 30), (31, 30)), (5, 6))] + passed[2:]))

    def test_a_number_twice_or_left_out(self):
        looked, passed = self.paper
        self.refuse(([0], passed))
        self.refuse(([1], passed), 1)
        self.refuse(([0, 0, 1], passed))
        self.refuse(([0, 1, 1], passed))
        self.refuse(([0, 1, 2], passed))
        self.refuse(([0, 1, 7], passed))
        self.refuse(([-1, 0, 1], passed))
        self.refuse(([0, 1, 10 ** 30], passed))
        self.refuse((looked, passed[:2]))
        self.refuse((looked, passed[1:]))
        self.refuse((looked, passed + passed[:1]))
        self.refuse((looked, passed + [(((0, 10), (10, 10)), (2, 3))]))
        for numbers in ((3, 5), (3, 6), (3, 5, 5, 6), (3, 3, 5, 6), (2, 3, 5, 6), (3, 5, 6, 7), (-1, 3, 5, 6)):
            self.refuse((looked, with_part(passed, 1, (passed[1][0], numbers))))

    def test_looked_not_rising(self):
        looked, passed = self.paper
        self.refuse(([1, 0], passed))
        self.refuse(([0, 2, 1], passed[1:]))

    def test_a_box_that_does_not_hold_a_colour_of_its_numbers(self):
        looked, passed = self.paper
        for box in (((11, 10), (31, 30)), ((10, 11), (31, 30)), ((10, 10), (30, 30)), ((10, 10), (31, 29))):
            self.refuse((looked, with_part(passed, 1, (box, (3, 5, 6)))))
        self.refuse((looked, with_part(passed, 0, (((5, 10), (9, 10)), (2,)))))
        self.refuse((looked, with_part(passed, 0, (((9, 9), (9, 9)), (2,)))))

    def test_a_box_that_is_too_near(self):
        looked, passed = self.paper
        self.take((looked, with_part(passed, 1, (((3, 1), (31, 30)), (3, 5, 6)))))
        self.take((looked, with_part(passed, 1, (((2, 3), (31, 30)), (3, 5, 6)))))
        self.refuse((looked, with_part(passed, 1, (((2, 1), (31, 30)), (3, 5, 6)))))
        self.refuse((looked, with_part(passed, 1, (((1, 1), (31, 30)), (3, 5, 6)))))
        self.refuse((looked, with_part(passed, 1, (((0, 0), (31, 30)), (3, 5, 6)))))

    def test_one_just_as_near_with_a_number_ahead(self):
        palette = [(2,), (9,), (0,), (2,)]
        self.take(([0, 2], [(((9,), (9,)), (1,)), (((2,), (2,)), (3,))]), 0, palette, (1,))
        self.take(([0], [(((9,), (9,)), (1,)), (((0,), (0,)), (2,)), (((2,), (2,)), (3,))]), 0, palette, (1,))
        self.take(([0], [(((2,), (9,)), (1, 3)), (((0,), (0,)), (2,))]), 0, palette, (1,))
        self.refuse(([2, 3], [(((9,), (9,)), (1,)), (((2,), (2,)), (0,))]), 2, palette, (1,))
        self.refuse(([2], [(((2,), (9,)), (0, 1, 3))]), 2, palette, (1,))
        self.refuse(([2, 3], [(((2,), (9,)), (0, 1))]), 3, palette, (1,))
        # The box is as near, and of its numbers only the one that is far off is ahead.
        self.refuse(([2], [(((2,), (9,)), (1, 3))]), 2, [(9,), (9,), (0,), (2,)], (1,))
        self.refuse(([0, 2], [(((2,), (9,)), (1, 3))]), 2, [(9,), (9,), (0,), (2,)], (1,))
        self.take(([0, 1, 2], [(((2,), (2,)), (3,))]), 2, [(9,), (9,), (0,), (2,)], (1,))

    def test_a_number_that_is_not_in_looked_or_not_the_first_there(self):
        for number in (1, 2, 3, 4, 5, 6, 7, -1, -7, 10 ** 30):
            self.refuse(self.paper, number)
        looked, passed = self.paper
        self.take(([0, 1, 4], passed[:2]), 0)
        self.refuse(([0, 1, 4], passed[:2]), 4)
        self.refuse(([0, 1, 4], passed[:2]), 1)

    def test_numbers_of_a_passed_one(self):
        looked, passed = self.paper
        box = passed[1][0]
        for numbers in ((5, 3, 6), (3, 6, 5), (6, 5, 3), (), [3, 5, 6], "356", None, 3, (3, 5, "6"), (3, 5, None),
                        (3, 5, [6]), (3, 5, (6,))):
            self.refuse((looked, with_part(passed, 1, (box, numbers))))
        self.refuse((looked, passed + [(box, ())]))
        self.refuse((looked, passed + [()]))

    def test_lists_and_tuples(self):
        looked, passed = self.paper
        for paper in ([looked, passed], (tuple(looked), passed), (looked, tuple(passed)), (looked,), (looked, passed, []),
                      (passed, looked), (looked, [list(each) for each in passed]), (looked, passed[0]), (looked, None),
                      (None, passed), ([], passed), (looked, []), ([], []), ()):
            self.refuse(paper)

    def test_true_is_no_one(self):
        palette, colour = [(9,), (0,), (0,)], (0,)
        self.take(([0, 1], [(((0,), (0,)), (2,))]), 1, palette, colour)
        self.refuse(([0, 1], [(((0,), (0,)), (2,))]), True, palette, colour)
        self.refuse(([0, True], [(((0,), (0,)), (2,))]), 1, palette, colour)
        self.refuse(([False, 1], [(((0,), (0,)), (2,))]), 1, palette, colour)
        self.refuse(([0, 1], [(((False,), (0,)), (2,))]), 1, palette, colour)
        self.refuse(([0, 1], [(((0,), (False,)), (2,))]), 1, palette, colour)
        self.refuse(([0], [(((9,), (9,)), (True,))]), 0, [(0,), (9,)], colour)
        self.refuse(([0, 1], []), False, [(0,), (9,)], colour)

    def test_one_part_otherwise(self):
        wrong = [thing for thing in ANYTHING if type(thing) is not int]
        for changed in one_otherwise(self.paper, wrong):
            if self.has_right_kinds(changed):
                told = plainly_shown(self.palette, self.colour, 0, changed)
                self.assertIs(shows_nearest(self.palette, self.colour, 0, changed), told, changed)
            else:
                self.refuse(changed)

    def has_right_kinds(self, paper):
        if not (type(paper) is tuple and len(paper) == 2 and type(paper[0]) is type(paper[1]) is list):
            return False
        if not all(type(number) is int for number in paper[0]):
            return False
        for each in paper[1]:
            if not (type(each) is tuple and len(each) == 2 and type(each[1]) is tuple):
                return False
            if not all(type(number) is int for number in each[1]):
                return False
            box = each[0]
            if not (type(box) is tuple and [type(end) for end in box] == [tuple, tuple]):
                return False
            if not all(len(end) == 2 and all(type(number) is int for number in end) for end in box):
                return False
        return True

    def test_anything(self):
        rng = dice(153)
        looked, passed = self.paper
        for thing in ANYTHING:
            self.refuse(thing)
            self.refuse((thing, thing))
            self.refuse((looked, thing))
            self.refuse((looked, [thing]))
            if not alike(thing, looked):
                self.refuse((thing, passed))
            self.refuse(([thing], passed))
            self.refuse(thing, thing)
            if not alike(thing, 0):
                self.refuse(self.paper, thing)
        for turn in range(3000):
            self.refuse(some_thing(rng, rng.randint(0, 6)), rng.choice((0, some_thing(rng, 2))))
        self.refuse((deep(19), deep(19)), deep(20))

    def test_against_each_number(self):
        rng = dice(154)
        shown = 0
        for turn in range(4000):
            palette = some_colours(rng, rng.randint(1, 2), rng.randint(1, 6), 0, rng.choice((2, 9)))
            colour = asked_for(rng, palette)
            tree = any_tree(rng, palette, list(range(len(palette))), 2, False)
            number, (looked, passed) = found_in(tree, palette, colour)
            change = rng.randint(0, 4)
            if change == 1:
                number = rng.choice(looked)
            elif change == 2 and len(looked) > 1:
                one = looked.pop(rng.randrange(len(looked)))
                passed.append(((palette[one], palette[one]), (one,)))
            elif change == 3 and passed:
                (low, high), numbers = passed.pop(0)
                low = tuple(n + rng.randint(-1, 1) for n in low)
                high = tuple(n + rng.randint(-1, 1) for n in high)
                passed.append(((low, high), numbers))
            elif change == 4 and passed:
                looked = sorted(looked + list(passed.pop()[1]))
            told = plainly_shown(palette, colour, number, (looked, passed))
            shown += told
            self.assertIs(shows_nearest(palette, colour, number, (looked, passed)), told)
        self.assertGreater(shown, 1000)
        self.assertLess(shown, 3500)


if __name__ == "__main__":
    unittest.main()
