import itertools
import unittest

from fewcolours.boxes import both_boxes, box_of, far_box, holds, is_box, near_box
from fewcolours.colours import apart
from tests.samples import FAR, NEITHER, dice, some_colour, some_colours


def some_box(rng, wide, low=0, high=999):
    ends = [sorted((rng.randint(low, high), rng.randint(low, high))) for place in range(wide)]
    return tuple(a for a, b in ends), tuple(b for a, b in ends)


def all_in(box):
    low, high = box
    return list(itertools.product(*[range(a, b + 1) for a, b in zip(low, high)]))


class IsBox(unittest.TestCase):
    def test_true_of_each_width(self):
        for wide in range(1, 6):
            self.assertIs(is_box(((1,) * wide, (4,) * wide), wide), True)

    def test_flat_boxes(self):
        for wide in range(1, 6):
            self.assertIs(is_box(((5,) * wide, (5,) * wide), wide), True)

    def test_whatever_the_numbers(self):
        self.assertIs(is_box(((-10 ** 30, 5), (10 ** 30, 5)), 2), True)
        self.assertIs(is_box(((-2,), (-1,)), 1), True)
        self.assertIs(is_box(((-1,), (-2,)), 1), False)

    def test_a_number_of_low_above_highs(self):
        for wide in range(1, 6):
            for place in range(wide):
                high = tuple(2 if at == place else 9 for at in range(wide))
                self.assertIs(is_box(((3,) * wide, high), wide), False)

    def test_another_width(self):
        for wide in range(1, 6):
            for other in range(0, 8):
                self.assertIs(is_box(((1,) * other, (2,) * other), wide), other == wide)

    def test_ends_of_unlike_widths(self):
        for one, other in itertools.permutations(range(0, 7), 2):
            for wide in range(1, 6):
                self.assertIs(is_box(((1,) * one, (2,) * other), wide), False)

    def test_one_end_three_ends(self):
        for ends in (0, 1, 3, 4):
            for wide in range(1, 6):
                self.assertIs(is_box(((1,) * wide,) * ends, wide), False)

    def test_lists_are_no_tuples(self):
        for wide in range(1, 6):
            low, high = (1,) * wide, (2,) * wide
            for thing in ([low, high], (list(low), high), (low, list(high)), (list(low), list(high))):
                self.assertIs(is_box(thing, wide), False)

    def test_things_among_the_numbers(self):
        for wrong in (True, False, None, "1", (1,), [1], []):
            for low, high in (((wrong, 1), (2, 2)), ((1, wrong), (2, 2)), ((0, 0), (wrong, 1)), ((0, 0), (1, wrong))):
                self.assertIs(is_box((low, high), 2), False)
            self.assertIs(is_box(((wrong,), (wrong,)), 1), False)

    def test_false_and_no_error_of_anything_else(self):
        for thing in NEITHER:
            for wide in range(1, 6):
                self.assertIs(is_box(thing, wide), False, (thing, wide))

    def test_a_colour_is_no_box(self):
        self.assertIs(is_box((1, 2), 2), False)
        self.assertIs(is_box((1, 2), 1), False)


class Holds(unittest.TestCase):
    def test_at_both_ends_and_between(self):
        box = ((1, 10, 100), (5, 50, 500))
        for colour in ((1, 10, 100), (5, 50, 500), (1, 50, 100), (5, 10, 500), (3, 30, 300)):
            self.assertIs(holds(box, colour), True)

    def test_one_beside_in_each_place(self):
        rng = dice(3)
        for wide in range(1, 6):
            low, high = some_box(rng, wide)
            for place in range(wide):
                for number, told in ((low[place] - 1, False), (low[place], True),
                                     (high[place], True), (high[place] + 1, False)):
                    colour = low[:place] + (number,) + low[place + 1:]
                    self.assertIs(holds((low, high), colour), told)

    def test_far_off(self):
        for number in (-FAR, FAR):
            self.assertIs(holds(((0, 0), (999, 999)), (number, 5)), False)
            self.assertIs(holds(((0, 0), (999, 999)), (5, number)), False)

    def test_flat_boxes(self):
        self.assertIs(holds(((4, 7), (4, 7)), (4, 7)), True)
        for colour in ((3, 7), (5, 7), (4, 6), (4, 8)):
            self.assertIs(holds(((4, 7), (4, 7)), colour), False)
        self.assertIs(holds(((4, 0), (4, 9)), (4, 5)), True)
        self.assertIs(holds(((4, 0), (4, 9)), (5, 5)), False)

    def test_holds_just_all_of_a_small_box(self):
        box = ((1, 2, 0), (3, 2, 4))
        inside = all_in(box)
        for colour in itertools.product(range(-1, 6), repeat=3):
            self.assertIs(holds(box, colour), colour in inside)


class BoxOf(unittest.TestCase):
    def test_of_one_colour(self):
        for wide in range(1, 6):
            colour = tuple(range(wide))
            self.assertEqual(box_of([colour]), (colour, colour))

    def test_of_many(self):
        self.assertEqual(box_of([(1, 9), (5, 2), (3, 3)]), ((1, 2), (5, 9)))
        self.assertEqual(box_of([(4,), (0,), (999,)]), ((0,), (999,)))

    def test_of_some_alike_and_in_any_order(self):
        colours = [(1, 9, 4), (5, 2, 4), (1, 9, 4), (3, 3, 4)]
        for order in itertools.permutations(colours):
            self.assertEqual(box_of(list(order)), ((1, 2, 4), (5, 9, 4)))

    def test_is_the_least_box_that_holds_them(self):
        rng = dice(4)
        for turn in range(200):
            wide = rng.randint(1, 5)
            colours = some_colours(rng, wide, rng.randint(1, 60))
            before = list(colours)
            box = box_of(colours)
            self.assertEqual(colours, before)
            self.assertIs(is_box(box, wide), True)
            for colour in colours:
                self.assertIs(holds(box, colour), True)
            for place in range(wide):
                self.assertIn(box[0][place], [colour[place] for colour in colours])
                self.assertIn(box[1][place], [colour[place] for colour in colours])


class BothBoxes(unittest.TestCase):
    def test_told_by_hand(self):
        self.assertEqual(both_boxes(((1, 5), (2, 6)), ((3, 0), (4, 9))), ((1, 0), (4, 9)))
        self.assertEqual(both_boxes(((0,), (9,)), ((3,), (4,))), ((0,), (9,)))
        self.assertEqual(both_boxes(((3,), (3,)), ((3,), (3,))), ((3,), (3,)))

    def test_same_as_box_of_both_lists(self):
        rng = dice(5)
        for turn in range(200):
            wide = rng.randint(1, 5)
            one = some_colours(rng, wide, rng.randint(1, 30))
            other = some_colours(rng, wide, rng.randint(1, 30))
            told = box_of(one + other)
            self.assertEqual(both_boxes(box_of(one), box_of(other)), told)
            self.assertEqual(both_boxes(box_of(other), box_of(one)), told)


class NearAndFar(unittest.TestCase):
    def test_inside_and_at_the_ends(self):
        box = ((10, 20), (30, 60))
        for colour in ((10, 20), (30, 60), (10, 60), (30, 20), (15, 40)):
            self.assertEqual(near_box(colour, box), 0)
        self.assertEqual(far_box((10, 20), box), 400 + 1600)
        self.assertEqual(far_box((30, 60), box), 400 + 1600)
        self.assertEqual(far_box((15, 30), box), 15 ** 2 + 30 ** 2)

    def test_halfway(self):
        self.assertEqual(far_box((20, 40), ((10, 20), (30, 60))), 100 + 400)
        self.assertEqual(far_box((2,), ((0,), (5,))), 9)
        self.assertEqual(far_box((3,), ((0,), (5,))), 9)

    def test_one_beside(self):
        box = ((10, 20), (30, 60))
        for colour in ((9, 30), (31, 30), (15, 19), (15, 61)):
            self.assertEqual(near_box(colour, box), 1)
        self.assertEqual(near_box((9, 61), box), 2)
        self.assertEqual(far_box((9, 61), box), 21 ** 2 + 41 ** 2)

    def test_far_off_either_way(self):
        box = ((0, 5), (999, 7))
        self.assertEqual(near_box((-FAR, FAR), box), FAR ** 2 + (FAR - 7) ** 2)
        self.assertEqual(far_box((-FAR, FAR), box), (FAR + 999) ** 2 + (FAR - 5) ** 2)
        self.assertEqual(near_box((FAR, -FAR), box), (FAR - 999) ** 2 + (FAR + 5) ** 2)
        self.assertEqual(far_box((FAR, -FAR), box), FAR ** 2 + (FAR + 7) ** 2)

    def test_flat_boxes(self):
        rng = dice(6)
        for turn in range(100):
            wide = rng.randint(1, 5)
            one = some_colour(rng, wide)
            colour = some_colour(rng, wide, -FAR, FAR)
            self.assertEqual(near_box(colour, (one, one)), apart(colour, one))
            self.assertEqual(far_box(colour, (one, one)), apart(colour, one))

    def test_against_all_colours_of_small_boxes(self):
        rng = dice(7)
        for turn in range(300):
            wide = rng.randint(1, 3)
            box = some_box(rng, wide, 0, 6)
            colour = some_colour(rng, wide, -4, 10)
            squares = [apart(colour, one) for one in all_in(box)]
            self.assertEqual(near_box(colour, box), min(squares))
            self.assertEqual(far_box(colour, box), max(squares))


if __name__ == "__main__":
    unittest.main()
