import unittest

from fewcolours.errors import NoColour
from fewcolours.kept import Kept
from fewcolours.looking import nearest, nearest_few, within
from fewcolours.treecheck import is_tree
from fewcolours.trees import few_in, found_in, within_in
from tests.samples import FAR, alike, asked_for, check_refused, dice, lists_in, plain_apart, plain_box, some_colour


def leaves_of(node):
    if node[0] == "leaf":
        return [node]
    return leaves_of(node[2]) + leaves_of(node[3])


class Checks(unittest.TestCase):
    def check_node(self, node, colours, most):
        """Checks a node as point [7] has it; tells its numbers."""
        self.assertIs(type(node), tuple)
        if node[0] == "leaf":
            self.assertEqual(len(node), 3)
            numbers = list(node[2])
            self.assertIs(type(node[2]), tuple)
            self.assertIn(len(numbers), range(1, most + 1))
            self.assertEqual(numbers, sorted(set(numbers)))
        else:
            self.assertEqual((node[0], len(node)), ("node", 4))
            numbers = self.check_node(node[2], colours, most) + self.check_node(node[3], colours, most)
        self.assertTrue(alike(node[1], plain_box([colours[number] for number in numbers])))
        return numbers

    def check_tree(self, kept, colours, most):
        tree = kept.tree_now()
        if colours == {}:
            self.assertIsNone(tree)
        else:
            self.assertEqual(sorted(self.check_node(tree, colours, most)), sorted(colours))

    def check_asked(self, kept, colours, colour):
        """All asks beside a look at all."""
        turn = sorted(colours, key=lambda number: (plain_apart(colours[number], colour), number))
        self.assertTrue(alike(kept.nearest(colour), turn[0] if turn else None))
        for many in (0, 1, 2, len(turn) // 2, len(turn), len(turn) + 1, 99):
            self.assertTrue(alike(kept.few(colour, many), turn[:many]))
        farthest = plain_apart(colours[turn[-1]], colour) if turn else 7
        middle = plain_apart(colours[turn[len(turn) // 2]], colour) if turn else 7
        for square in (0, middle, max(middle - 1, 0), farthest, max(farthest - 1, 0)):
            plain = [number for number in sorted(colours) if plain_apart(colours[number], colour) <= square]
            self.assertTrue(alike(kept.within(colour, square), plain))

    def check_none(self, kept, number):
        """There is no colour of that number."""
        check_refused(self, NoColour, kept.take, number)
        check_refused(self, NoColour, kept.turn, number, (1, 1, 1))
        check_refused(self, NoColour, kept.colour_of, number)

    def check_all(self, rng, kept, colours, put, most, wide):
        self.assertTrue(alike(kept.all_numbers(), sorted(colours)))
        for number, colour in colours.items():
            self.assertTrue(alike(kept.colour_of(number), colour))
        self.check_tree(kept, colours, most)
        among = list(colours.values()) or [(0,) * wide]
        self.check_asked(kept, colours, asked_for(rng, among))
        for number in (-1, -put - 1, put, put + 5):
            self.check_none(kept, number)
        taken = [number for number in range(put) if number not in colours]
        if taken:
            self.check_none(kept, rng.choice(taken))


class KeptTest(Checks):
    def run_deeds(self, rng, wide, most, high, deeds, weights):
        kept, colours, put = Kept(wide, most), {}, 0
        self.check_all(rng, kept, colours, put, most, wide)
        for deed in range(deeds):
            what = rng.choices(("put", "take", "turn", "alike"), weights)[0]
            colour = some_colour(rng, wide, 0, high)
            if what == "alike" and colours:
                colour = rng.choice(list(colours.values()))
            if what in ("put", "alike") or not colours:
                self.assertTrue(alike(kept.put(colour), put))
                colours[put] = colour
                put += 1
            elif what == "take":
                number = rng.choice(list(colours))
                self.assertIsNone(kept.take(number))
                del colours[number]
            else:
                number = rng.choice(list(colours))
                self.assertIsNone(kept.turn(number, colour))
                colours[number] = colour
            self.check_all(rng, kept, colours, put, most, wide)

    def test_told_by_hand(self):
        kept = Kept(2, 1)
        self.assertIsNone(kept.nearest((1, 1)))
        self.assertIsNone(kept.tree_now())
        self.assertEqual((kept.all_numbers(), kept.few((1, 1), 3), kept.within((1, 1), 9)), ([], [], []))
        self.assertEqual([kept.put((0, 0)), kept.put((9, 9)), kept.put((0, 0))], [0, 1, 2])
        self.assertEqual(kept.nearest((1, 1)), 0)
        self.assertIsNone(kept.take(0))
        self.assertEqual(kept.nearest((1, 1)), 2)
        self.assertEqual(kept.few((9, 8), 5), [1, 2])
        self.assertIsNone(kept.turn(2, (9, 9)))
        self.assertEqual(kept.nearest((1, 1)), 1)
        self.assertEqual(kept.within((9, 8), 1), [1, 2])
        self.assertEqual(kept.within((9, 8), 0), [])
        self.assertEqual(kept.put((5, 5)), 3)
        self.assertEqual(kept.all_numbers(), [1, 2, 3])
        self.assertEqual(kept.colour_of(2), (9, 9))

    def test_rows_of_deeds(self):
        rng = dice(331)
        for turn in range(25):
            wide, most = rng.randint(1, 5), rng.randint(1, 8)
            self.run_deeds(rng, wide, most, rng.choice((1, 3, 20, 999)), 60, (4, 3, 2, 1))

    def test_rows_of_deeds_with_few_there(self):
        rng = dice(332)
        for turn in range(20):
            self.run_deeds(rng, rng.randint(1, 3), rng.choice((1, 2, 8)), 4, 40, (2, 4, 2, 2))

    def test_sixty_at_once_all_taken_and_put_anew(self):
        rng = dice(333)
        for most in (1, 3, 8):
            kept, colours = Kept(3, most), {}
            for number in range(60):
                colours[number] = some_colour(rng, 3)
                self.assertEqual(kept.put(colours[number]), number)
            self.check_all(rng, kept, colours, 60, most, 3)
            for number in rng.sample(range(60), 60):
                kept.take(number)
                del colours[number]
                if len(colours) % 15 == 0:
                    self.check_all(rng, kept, colours, 60, most, 3)
            self.assertEqual((kept.tree_now(), kept.nearest((1, 1, 1)), kept.all_numbers()), (None, None, []))
            for number in range(60, 120):
                colours[number] = some_colour(rng, 3, 0, 3)
                self.assertEqual(kept.put(colours[number]), number)
            self.check_all(rng, kept, colours, 120, most, 3)

    def test_of_alike_colours(self):
        rng = dice(334)
        kept, colours = Kept(2, 2), {}
        for number in range(30):
            kept.put((5, 5))
            colours[number] = (5, 5)
        self.check_all(rng, kept, colours, 30, 2, 2)
        for number in range(0, 30, 2):
            kept.take(number)
            del colours[number]
        self.assertEqual(kept.nearest((5, 6)), 1)
        self.assertEqual(kept.few((FAR, -FAR), 3), [1, 3, 5])
        self.check_all(rng, kept, colours, 30, 2, 2)

    def test_far_off(self):
        kept = Kept(2, 1)
        for colour in ((0, 0), (999, 999), (0, 999)):
            kept.put(colour)
        self.assertEqual(kept.nearest((-FAR, FAR)), 2)
        self.assertEqual(kept.nearest((FAR, -FAR)), 0)
        self.assertEqual(kept.within((FAR, FAR), 2 * (FAR - 999) ** 2), [1])
        self.assertEqual(kept.within((FAR, FAR), 2 * (FAR - 999) ** 2 - 1), [])

    def test_a_refusal_changes_nothing(self):
        kept = Kept(3, 2)
        self.check_none(kept, 0)
        kept.put((1, 2, 3))
        kept.put((4, 5, 6))
        kept.take(0)
        tree = kept.tree_now()
        for number in (0, 2, -1, -2, 10 ** 9):
            self.check_none(kept, number)
        self.assertEqual((kept.all_numbers(), kept.colour_of(1), kept.tree_now()), ([1], (4, 5, 6), tree))
        self.assertEqual(kept.put((7, 8, 9)), 2)

    def test_as_a_palette_where_none_was_taken(self):
        rng = dice(335)
        for turn in range(20):
            palette = [some_colour(rng, 2, 0, rng.choice((3, 999))) for number in range(rng.randint(1, 60))]
            kept = Kept(2, rng.randint(1, 8))
            for colour in palette:
                kept.put(colour)
            colour = asked_for(rng, palette)
            square = plain_apart(colour, rng.choice(palette))
            tree = kept.tree_now()
            self.assertEqual(kept.nearest(colour), nearest(palette, colour))
            self.assertEqual(found_in(tree, palette, colour)[0], nearest(palette, colour))
            self.assertEqual(kept.few(colour, 7), nearest_few(palette, colour, 7))
            self.assertEqual(few_in(tree, palette, colour, 7), nearest_few(palette, colour, 7))
            self.assertEqual(kept.within(colour, square), within(palette, colour, square))
            self.assertEqual(within_in(tree, palette, colour, square), within(palette, colour, square))

    def test_leaves_are_no_fuller_than_most(self):
        for most in range(1, 9):
            kept = Kept(1, most)
            for number in range(60):
                kept.put((number,))
                self.assertLessEqual(max(len(leaf[2]) for leaf in leaves_of(kept.tree_now())), most)

    def test_two_by_turns(self):
        rng = dice(336)
        one, other, of_one, of_other = Kept(2, 1), Kept(2, 8), {}, {}
        for number in range(20):
            of_one[number], of_other[number] = some_colour(rng, 2), some_colour(rng, 2)
            self.assertEqual(one.put(of_one[number]), number)
            self.assertEqual(other.put(of_other[number]), number)
            if number % 4 == 3:
                one.take(number - 2)
                del of_one[number - 2]
                other.turn(number - 2, (1, 1))
                of_other[number - 2] = (1, 1)
            self.check_all(rng, one, of_one, number + 1, 1, 2)
            self.check_all(rng, other, of_other, number + 1, 8, 2)

    def test_what_was_told_stays_and_may_be_changed(self):
        kept = Kept(1, 1)
        for number in range(5):
            kept.put((number,))

        def ask():
            return [kept.all_numbers(), kept.few((2,), 3), kept.within((2,), 1), kept.tree_now(), kept.nearest((2,))]
        first, second = ask(), ask()
        self.assertTrue(alike(first, second))
        self.assertEqual([each for each in lists_in(first[3])], [])
        tree = first[3]
        for each in first[:3]:
            each.append("mine")
            each.reverse()
        self.assertTrue(alike(ask(), second))
        kept.take(2)
        kept.turn(3, (900,))
        kept.put((2,))
        self.assertEqual(second[:3], [[0, 1, 2, 3, 4], [2, 1, 3], [1, 2, 3]])
        self.assertEqual(tree, second[3])
        self.assertIs(is_tree([(0,), (1,), (2,), (3,), (4,)], 1, tree), True)

    def test_somewhat_beyond_the_bounds_nothing_is_refused(self):
        for most in (0, 9, 70):
            kept = Kept(2, most)
            for number in range(80):
                self.assertEqual(kept.put((number, -number)), number)
            self.assertEqual(kept.nearest((77, -78)), 77)
            self.assertEqual(sorted(n for leaf in leaves_of(kept.tree_now()) for n in leaf[2]), list(range(80)))
            self.assertEqual(kept.within((0, 0), -1), [])


if __name__ == "__main__":
    unittest.main()
