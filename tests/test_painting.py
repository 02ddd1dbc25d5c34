import copy
import unittest

from fewcolours.errors import LastColour, NoColour, NoSpot
from fewcolours.painting import Painting
from fewcolours.pictures import lost_in, numbers_by, painted
from tests.samples import alike, check_refused, dice, lists_in, plain_apart, some_colour, some_picture


class One:
    """A colour of a palette, the same one while it turns."""

    def __init__(self, colour):
        self.colour = colour


class Plain:
    """What a painting must be, told by looking at all of it anew behind each change."""

    def __init__(self, picture, palette):
        self.spots = copy.deepcopy(picture)
        self.ones = [One(colour) for colour in palette]
        self.past = []

    def colours(self):
        return [one.colour for one in self.ones]

    def told(self):
        """For each spot the pair of its number and its One."""
        pairs = []
        for row in self.spots:
            pairs.append([])
            for spot in row:
                squares = [plain_apart(colour, spot) for colour in self.colours()]
                number = squares.index(min(squares))
                pairs[-1].append((number, self.ones[number]))
        return pairs

    def remember(self):
        self.past.append((copy.deepcopy(self.spots), list(self.ones), self.colours()))

    def otherwise(self, ahead):
        """The spots told by another One than ahead."""
        return [(row, column, old, new)
                for row, (olds, news) in enumerate(zip(ahead, self.told()))
                for column, ((old, one), (new, other)) in enumerate(zip(olds, news)) if one is not other]

    def do(self, what, *handed):
        ahead = self.told()
        if what == "undo":
            if self.past == []:
                return None
            self.spots, self.ones, colours = self.past.pop()
            for one, colour in zip(self.ones, colours):
                one.colour = colour
            return self.otherwise(ahead)
        self.remember()
        if what == "set_spot":
            self.spots[handed[0]][handed[1]] = handed[2]
        elif what == "put_colour":
            self.ones = self.ones + [One(handed[0])]
        elif what == "turn_colour":
            self.ones[handed[0]].colour = handed[1]
        else:
            self.ones = self.ones[:handed[0]] + self.ones[handed[0] + 1:]
        return self.otherwise(ahead)


def some_change(rng, plain, high):
    """A change that is not refused, with what is handed in."""
    wide, many = len(plain.spots[0][0]), len(plain.ones)
    colour = rng.choice((some_colour(rng, wide, 0, high), rng.choice(plain.colours()), rng.choice(plain.spots[0])))
    what = rng.choice(("set_spot", "put_colour", "turn_colour", "take_colour", "take_colour", "undo"))
    if what == "take_colour" and many == 1:
        what = "put_colour"
    return {
        "set_spot": ("set_spot", rng.randrange(len(plain.spots)), rng.randrange(len(plain.spots[0])), colour),
        "put_colour": ("put_colour", colour),
        "turn_colour": ("turn_colour", rng.randrange(many), colour),
        "take_colour": ("take_colour", rng.randrange(many)),
        "undo": ("undo",),
    }[what]


class PaintingTest(unittest.TestCase):
    def check_now(self, painting, plain):
        self.assertTrue(alike(painting.picture(), plain.spots))
        self.assertTrue(alike(painting.palette(), plain.colours()))
        numbers = [[number for number, one in row] for row in plain.told()]
        self.assertTrue(alike(painting.numbers(), numbers))
        self.assertTrue(alike(painting.numbers(), numbers_by(plain.spots, plain.colours())))
        self.assertTrue(alike(painting.lost(), lost_in(plain.spots, painted(numbers, plain.colours()))))

    def do_both(self, painting, plain, what, *handed):
        told = getattr(painting, what)(*handed)
        self.assertTrue(alike(told, plain.do(what, *handed)), (what, handed, told))
        self.check_now(painting, plain)
        return told

    def check_refusals(self, painting, plain):
        """Some deeds that are refused, which change nothing, nor what undo takes back."""
        rows, columns, many = len(plain.spots), len(plain.spots[0]), len(plain.ones)
        colour = plain.spots[0][0]
        for row, column in ((rows, 0), (0, columns), (-1, 0), (0, -1), (-rows, -columns), (10 ** 9, 0)):
            check_refused(self, NoSpot, painting.set_spot, row, column, colour)
        for number in (-1, -many, many, many + 3, 10 ** 9):
            check_refused(self, NoColour, painting.turn_colour, number, colour)
            check_refused(self, NoColour, painting.take_colour, number)
        if many == 1:
            check_refused(self, LastColour, painting.take_colour, 0)
        self.check_now(painting, plain)

    def test_told_by_hand(self):
        painting = Painting([[(0,), (4,)], [(9,), (5,)]], [(0,), (9,)])
        self.assertEqual(painting.numbers(), [[0, 0], [1, 1]])
        self.assertEqual(painting.lost(), 16 + 16)
        self.assertEqual(painting.put_colour((4,)), [(0, 1, 0, 2), (1, 1, 1, 2)])
        self.assertEqual(painting.lost(), 1)
        # What was number 2 is number 1 now, and the same one still.
        self.assertEqual(painting.take_colour(1), [(1, 0, 1, 1)])
        self.assertEqual(painting.numbers(), [[0, 1], [1, 1]])
        self.assertEqual(painting.turn_colour(1, (5,)), [])
        self.assertEqual(painting.set_spot(0, 0, (8,)), [(0, 0, 0, 1)])
        self.assertEqual(painting.picture(), [[(8,), (4,)], [(9,), (5,)]])
        self.assertEqual(painting.turn_colour(0, (8,)), [(0, 0, 1, 0), (1, 0, 1, 0)])
        self.assertEqual(painting.undo(), [(0, 0, 0, 1), (1, 0, 0, 1)])
        self.assertEqual(painting.undo(), [(0, 0, 1, 0)])
        self.assertEqual(painting.undo(), [])
        self.assertEqual(painting.undo(), [(1, 0, 1, 1)])
        self.assertEqual(painting.palette(), [(0,), (9,), (4,)])
        self.assertEqual(painting.undo(), [(0, 1, 2, 0), (1, 1, 2, 1)])
        self.assertIsNone(painting.undo())
        self.assertIsNone(painting.undo())
        self.assertEqual(painting.numbers(), [[0, 0], [1, 1]])

    def test_an_alike_colour_is_another_one(self):
        painting = Painting([[(5,), (6,)]], [(5,), (5,), (9,)])
        self.assertEqual(painting.take_colour(0), [(0, 0, 0, 0), (0, 1, 0, 0)])
        self.assertEqual(painting.put_colour((5,)), [])
        self.assertEqual(painting.undo(), [])
        self.assertEqual(painting.undo(), [(0, 0, 0, 0), (0, 1, 0, 0)])
        self.assertEqual(painting.take_colour(1), [])
        self.assertEqual(painting.take_colour(1), [])
        self.assertEqual(painting.palette(), [(5,)])
        self.assertEqual(painting.undo(), [])
        self.assertEqual(painting.undo(), [])

    def test_a_number_that_only_got_less_or_more_is_not_told(self):
        painting = Painting([[(9,), (0,), (8,)]], [(50,), (0,), (60,), (9,)])
        self.assertEqual(painting.take_colour(0), [])
        self.assertEqual(painting.numbers(), [[2, 0, 2]])
        self.assertEqual(painting.take_colour(1), [])
        self.assertEqual(painting.numbers(), [[1, 0, 1]])
        self.assertEqual(painting.undo(), [])
        self.assertEqual(painting.numbers(), [[2, 0, 2]])
        self.assertEqual(painting.undo(), [])
        self.assertEqual(painting.numbers(), [[3, 1, 3]])

    def test_a_turned_colour_is_the_same_one(self):
        painting = Painting([[(9,), (0,)]], [(9,), (0,)])
        self.assertEqual(painting.turn_colour(0, (7,)), [])
        self.assertEqual(painting.turn_colour(0, (0,)), [(0, 1, 1, 0)])
        self.assertEqual(painting.turn_colour(1, (9,)), [(0, 0, 0, 1)])
        self.assertEqual(painting.undo(), [(0, 0, 1, 0)])

    def test_rows_of_changes(self):
        rng = dice(341)
        for turn in range(60):
            high = rng.choice((2, 9, 999))
            size = rng.choice(((1, 1), (1, 6), (5, 1), (3, 4), (2, 2)))
            wide = rng.randint(1, 5)
            picture = some_picture(rng, wide, high, size)
            palette = [some_colour(rng, wide, 0, high) for number in range(rng.choice((1, 2, 3, 8)))]
            painting, plain = Painting(picture, palette), Plain(picture, palette)
            self.check_now(painting, plain)
            for change in range(30):
                self.do_both(painting, plain, *some_change(rng, plain, high))
                if rng.random() < 0.2:
                    self.check_refusals(painting, plain)
            while plain.past:
                self.do_both(painting, plain, "undo")
            self.assertTrue(alike((painting.picture(), painting.palette()), (picture, palette)))
            self.do_both(painting, plain, "undo")

    def test_of_sixteen_by_sixteen_and_sixty_colours(self):
        rng = dice(342)
        picture = some_picture(rng, 3, 999, (16, 16))
        palette = [some_colour(rng, 3) for number in range(60)]
        painting, plain = Painting(picture, palette), Plain(picture, palette)
        for change in (("take_colour", 0), ("take_colour", 30), ("put_colour", (500, 500, 500)),
                       ("turn_colour", 3, (1, 2, 3)), ("set_spot", 15, 15, (0, 0, 0)), ("undo",), ("undo",)):
            self.do_both(painting, plain, *change)

    def test_changes_that_change_nothing_are_taken_back_too(self):
        picture, palette = [[(1,), (2,)]], [(1,), (7,)]
        painting, plain = Painting(picture, palette), Plain(picture, palette)
        for change in (("set_spot", 0, 0, (1,)), ("turn_colour", 1, (7,)), ("put_colour", (7,)), ("take_colour", 2)):
            self.assertEqual(self.do_both(painting, plain, *change), [])
        for change in range(4):
            self.assertEqual(self.do_both(painting, plain, "undo"), [])
        self.assertIsNone(self.do_both(painting, plain, "undo"))

    def test_refused_changes_are_not_taken_back(self):
        picture, palette = [[(1, 1), (2, 2)]], [(1, 1)]
        painting, plain = Painting(picture, palette), Plain(picture, palette)
        self.check_refusals(painting, plain)
        self.assertIsNone(painting.undo())
        self.do_both(painting, plain, "put_colour", (2, 2))
        self.check_refusals(painting, plain)
        self.assertEqual(self.do_both(painting, plain, "undo"), [(0, 1, 1, 0)])
        self.check_refusals(painting, plain)
        self.assertIsNone(painting.undo())

    def test_no_colour_goes_ahead_of_last_colour(self):
        painting = Painting([[(1,)]], [(1,)])
        for number in (1, 2, -1):
            check_refused(self, NoColour, painting.take_colour, number)
        check_refused(self, LastColour, painting.take_colour, 0)
        painting.put_colour((2,))
        painting.take_colour(0)
        check_refused(self, LastColour, painting.take_colour, 0)
        check_refused(self, NoColour, painting.take_colour, 1)

    def test_two_by_turns(self):
        rng = dice(344)
        picture = some_picture(rng, 2, 9, (3, 3))
        palette = [some_colour(rng, 2, 0, 9) for number in range(4)]
        both = [(Painting(picture, palette), Plain(picture, palette)) for turn in range(2)]
        for change in range(30):
            painting, plain = rng.choice(both)
            self.do_both(painting, plain, *some_change(rng, plain, 9))
            for each in both:
                self.check_now(*each)

    def test_what_is_handed_in_is_not_kept(self):
        picture, palette = [[(1,), (2,)], [(3,), (9,)]], [(1,), (9,)]
        painting = Painting(picture, palette)
        painting.put_colour((3,))
        painting.set_spot(0, 0, (9,))
        painting.take_colour(0)
        self.assertEqual((picture, palette), ([[(1,), (2,)], [(3,), (9,)]], [(1,), (9,)]))
        picture[0][0] = (500,)
        picture.pop()
        palette.clear()
        self.assertEqual(painting.picture(), [[(9,), (2,)], [(3,), (9,)]])
        self.assertEqual(painting.palette(), [(9,), (3,)])
        painting.undo()
        painting.undo()
        painting.undo()
        self.assertEqual(painting.picture(), [[(1,), (2,)], [(3,), (9,)]])
        self.assertEqual(painting.palette(), [(1,), (9,)])

    def test_what_is_told_may_be_changed(self):
        painting = Painting([[(1,), (2,)], [(3,), (9,)]], [(1,), (9,)])

        def ask():
            return [painting.numbers(), painting.palette(), painting.picture(), painting.lost()]
        first, second = ask(), ask()
        places = {id(each) for each in lists_in(first) + lists_in(second)}
        self.assertEqual(len(places), len(lists_in(first)) + len(lists_in(second)))
        self.assertTrue(alike(first, second))
        for each in lists_in(first[:3]):
            each.insert(0, "mine")
            each.reverse()
        self.assertTrue(alike(ask(), second))
        for told in (painting.put_colour((3,)), painting.set_spot(0, 0, (8,)), painting.take_colour(1)):
            told.append("mine")
        self.assertTrue(alike(second, [[[0, 0], [0, 1]], [(1,), (9,)], [[(1,), (2,)], [(3,), (9,)]], 1 + 4]))
        for change in range(3):
            painting.undo().append("mine")
        self.assertTrue(alike(ask(), second))


if __name__ == "__main__":
    unittest.main()
