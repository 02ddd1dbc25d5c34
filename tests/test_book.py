import unittest

from fewcolours.book import Book
from fewcolours.changes import cost_of, least_change
from fewcolours.errors import BadName, NoName, Taken
from fewcolours.pictures import lost_in, numbers_by, painted
from tests.samples import ANYTHING, alike, check_refused, deep, dice, lists_in, some_colours, some_picture

NO_NAMES = [thing for thing in ANYTHING if not isinstance(thing, str)] + [
    "", " ", "a ", " a", "a b", "A", "aB", "Abc", "abcdefghi", "abcdefghijklmnopqrstuvwxyz", "a1", "1", "a_", "a-b",
    "\u00e4", "na\u00efve", "\u00df", "\u03b1", "\u0430", "\uff41", "a\n", "\n", "a\t", "a\u0301", "\u2170", "|",
    "-", "a/b", "a.", "`", "{", "@", "[", ("a",), ["a"], [], {}, {"a": 1}, b"a", 1.5, deep(20),
]
NAMES = ["a", "z", "aa", "abcdefgh", "zzzzzzzz", "b", "ab", "ba", "palette", "wide"]


def plain_lost(picture, palette):
    return lost_in(picture, painted(numbers_by(picture, palette), palette))


class BookTest(unittest.TestCase):
    def check_now(self, book, palettes):
        self.assertTrue(alike(book.names(), sorted(palettes)))
        for name, palette in palettes.items():
            self.assertTrue(alike(book.palette_of(name), palette))

    def test_names_put_and_dropped(self):
        book, palettes = Book(), {}
        self.check_now(book, palettes)
        for number, name in enumerate(NAMES):
            self.assertIsNone(book.put(name, [(number,)]))
            palettes[name] = [(number,)]
            self.check_now(book, palettes)
        for name in ("zzzzzzzz", "a", "palette", "b"):
            self.assertIsNone(book.drop(name))
            del palettes[name]
            self.check_now(book, palettes)
        book.put("a", [(500,), (500,)])
        palettes["a"] = [(500,), (500,)]
        self.check_now(book, palettes)

    def test_bad_names(self):
        for book in (Book(), Book()):
            for name in NO_NAMES:
                check_refused(self, BadName, book.put, name, [(1,)])
                check_refused(self, NoName, book.drop, name)
                check_refused(self, NoName, book.palette_of, name)
                check_refused(self, NoName, book.likest, name, 5)
            self.assertEqual(book.names(), [])
            book.put("a", [(1,)])
            for name in NO_NAMES:
                check_refused(self, BadName, book.put, name, [(2,)])
                check_refused(self, NoName, book.palette_of, name)
            self.check_now(book, {"a": [(1,)]})

    def test_taken_names(self):
        book = Book()
        for name in NAMES:
            book.put(name, [(1,)])
        for name in NAMES:
            check_refused(self, Taken, book.put, name, [(2,)])
            self.assertEqual(book.palette_of(name), [(1,)])
        book.drop("a")
        book.put("a", [(2,)])
        check_refused(self, Taken, book.put, "a", [(3,)])
        self.assertEqual(book.palette_of("a"), [(2,)])

    def test_names_that_are_not_there(self):
        book = Book()
        book.put("ab", [(1,)])
        book.put("c", [(1,)])
        book.drop("c")
        for name in ("a", "b", "abc", "c", "aab"):
            check_refused(self, NoName, book.drop, name)
            check_refused(self, NoName, book.palette_of, name)
            check_refused(self, NoName, book.likest, name, 0)
        self.check_now(book, {"ab": [(1,)]})

    def test_best_for_told_by_hand(self):
        book = Book()
        self.assertIsNone(book.best_for([[(1,)]]))
        book.put("zz", [(1,), (9,)])
        self.assertEqual(book.best_for([[(1,), (7,)]]), ("zz", 4))
        book.put("b", [(7,), (9,)])
        self.assertEqual(book.best_for([[(1,), (7,)]]), ("zz", 4))
        self.assertEqual(book.best_for([[(6,), (7,)]]), ("b", 1))
        # Of equal losses the least name, whichever was put first.
        book.put("c", [(7,)])
        self.assertEqual(book.best_for([[(7,)]]), ("b", 0))
        book.put("a", [(7,)])
        self.assertEqual(book.best_for([[(7,)]]), ("a", 0))
        book.put("aa", [(7,)])
        self.assertEqual(book.best_for([[(7,)]]), ("a", 0))
        for name in ("a", "aa", "b", "c", "zz"):
            book.drop(name)
        self.assertIsNone(book.best_for([[(7,)]]))

    def test_best_for_many(self):
        rng = dice(431)
        for turn in range(25):
            wide, high = rng.randint(1, 5), rng.choice((1, 3, 999))
            book, palettes = Book(), {}
            for name in rng.sample(NAMES, rng.randint(1, 10)):
                palettes[name] = some_colours(rng, wide, rng.randint(1, 8), 0, high)
                book.put(name, palettes[name])
            picture = some_picture(rng, wide, high, rng.choice(((1, 1), (3, 4))))
            lost, name = min((plain_lost(picture, palette), name) for name, palette in palettes.items())
            self.assertTrue(alike(book.best_for(picture), (name, lost)))

    def test_likest_told_by_hand(self):
        book = Book()
        book.put("b", [(1,), (5,)])
        self.assertEqual(book.likest("b", 5), [])
        book.put("a", [(9,)])
        self.assertEqual(book.likest("b", 5), [(15, "a")])
        self.assertEqual(book.likest("a", 10), [(26, "b")])
        book.put("c", [(5,), (2,)])
        book.put("aa", [(5,), (2,)])
        self.assertEqual(book.likest("b", 5), [(1, "aa"), (1, "c"), (15, "a")])
        self.assertEqual(book.likest("b", 0), [(0, "a"), (0, "aa"), (0, "c")])
        book.drop("aa")
        self.assertEqual(book.likest("b", 5), [(1, "c"), (15, "a")])

    def test_likest_of_many(self):
        rng = dice(432)
        for turn in range(25):
            wide, high = rng.randint(1, 5), rng.choice((1, 9, 999))
            book, palettes = Book(), {}
            for name in rng.sample(NAMES, rng.choice((1, 2, 3, 6, 10))):
                palettes[name] = some_colours(rng, wide, rng.randint(1, 5), 0, high)
                book.put(name, palettes[name])
            for price in (0, 3, 1000, 10 ** 7):
                name = rng.choice(sorted(palettes))
                costs = sorted((least_change(palettes[name], palettes[other], price)[0], other)
                               for other in palettes if other != name)
                self.assertTrue(alike(book.likest(name, price), costs))

    def test_twenty_palettes_of_up_to_twelve_colours(self):
        rng = dice(433)
        book, palettes = Book(), {}
        for number in range(20):
            name = "abcdefghijklmnopqrst"[number] * rng.randint(1, 8)
            palettes[name] = some_colours(rng, 3, rng.choice((2, 5, 12)))
            book.put(name, palettes[name])
        self.check_now(book, palettes)
        told = book.likest(sorted(palettes)[0], 10 ** 5)
        self.assertEqual(sorted(other for cost, other in told), sorted(palettes)[1:])
        self.assertEqual(told, sorted(told))
        one = palettes[sorted(palettes)[0]]
        for cost, other in told:
            least = least_change(one, palettes[other], 10 ** 5)
            self.assertEqual((cost, cost_of(one, palettes[other], 10 ** 5, least[1])), (least[0], cost))

    def test_the_palettes_are_its_own(self):
        book = Book()
        palette = [(1, 1), (2, 2)]
        book.put("a", palette)
        book.put("b", palette)
        palette.append((3, 3))
        palette[0] = (9, 9)
        self.check_now(book, {"a": [(1, 1), (2, 2)], "b": [(1, 1), (2, 2)]})
        told = [book.palette_of("a"), book.palette_of("a"), book.names(), book.likest("a", 5), book.names()]
        self.assertEqual(len({id(each) for each in lists_in(told)}), 5 + 1)
        for each in told:
            each.clear()
        self.check_now(book, {"a": [(1, 1), (2, 2)], "b": [(1, 1), (2, 2)]})
        self.assertEqual(book.likest("a", 5), [(0, "b")])
        kept = [book.palette_of("b"), book.names(), book.likest("a", 5)]
        book.drop("b")
        self.assertEqual(kept, [[(1, 1), (2, 2)], ["a", "b"], [(0, "b")]])
        picture = [[(1, 2)], [(2, 2)]]
        self.assertEqual(book.best_for(picture), ("a", 1))
        self.assertEqual(picture, [[(1, 2)], [(2, 2)]])

    def test_two_by_turns(self):
        rng = dice(434)
        both = [(Book(), {}), (Book(), {})]
        for deed in range(60):
            book, palettes = rng.choice(both)
            name = rng.choice(NAMES)
            if name in palettes:
                book.drop(name)
                del palettes[name]
            else:
                palettes[name] = some_colours(rng, 2, rng.randint(1, 4), 0, 9)
                book.put(name, palettes[name])
            for each in both:
                self.check_now(*each)

    def test_somewhat_beyond_the_bounds_nothing_is_refused(self):
        book = Book()
        for number in range(25):
            book.put("abcdefghijklmnopqrstuvwxyz"[number], [(number,)])
        self.assertEqual(len(book.names()), 25)
        self.assertEqual(len(book.likest("a", 10 ** 8)), 24)


if __name__ == "__main__":
    unittest.main()
