"""What point [1] promises of the whole program, across its parts."""

import copy
import unittest
from fractions import Fraction

from fewcolours.best import best_groups, best_paper, total_of
from fewcolours.bestcheck import shows_best
from fewcolours.bestline import best_on_line
from fewcolours.book import Book
from fewcolours.changecheck import shows_change
from fewcolours.changes import change_paper, cost_of, least_change
from fewcolours.cutting import cut_groups, palette_by_cuts
from fewcolours.handing import handed_on, wanted_by
from fewcolours.kept import Kept
from fewcolours.linecheck import shows_table
from fewcolours.lines import by_table, line_table
from fewcolours.looking import in_turn, nearest, nearest_few, nearest_middle, within
from fewcolours.middles import as_middle
from fewcolours.painting import Painting
from fewcolours.pictures import counts_in, lost_in, most_used, numbers_by, painted
from fewcolours.resting import at_rest, is_resting, lost_by, moved_once, palette_at_rest
from fewcolours.texts import run
from fewcolours.treecheck import is_tree, shows_nearest
from fewcolours.trees import few_in, found_in, tree_of, within_in
from tests.samples import (alike, asked_for, dice, lists_in, plain_apart, some_colour, some_colours, some_palette,
                           some_picture)

SHARES = [(1, 0, 7), (-1, 1, 3), (0, 1, 5), (1, 1, 1)]


def slashed(colour):
    return "/".join(map(str, colour))


def text_of(wide, palette, picture, *asks):
    colours = " ".join(map(slashed, palette))
    rows = " | ".join(" ".join(map(slashed, row)) for row in picture)
    return "\n".join([f"wide {wide}", f"palette p {colours}", f"picture s {rows}", *asks])


class NearestToldAlike(unittest.TestCase):
    def told_in_all_ways(self, palette, colour):
        """The nearest of the palette, found in every way there is."""
        wide = len(colour)
        told = [nearest(palette, colour), in_turn(palette, colour)[0], nearest_few(palette, colour, 1)[0]]
        told.append(nearest_middle([as_middle(one) for one in palette], colour))
        for most in (1, 3, 8):
            tree = tree_of(palette, most)
            number, paper = found_in(tree, palette, colour)
            self.assertIs(shows_nearest(palette, colour, number, paper), True)
            told.extend([number, few_in(tree, palette, colour, 1)[0]])
            kept = Kept(wide, most)
            for one in palette:
                kept.put(one)
            told.extend([kept.nearest(colour), kept.few(colour, 1)[0]])
        told.append(numbers_by([[colour]], palette)[0][0])
        told.append(Painting([[colour]], palette).numbers()[0][0])
        told.append(handed_on([[colour]], palette, SHARES, "turned")[0][0][0])
        if wide == 1:
            told.append(by_table(line_table(palette, colour[0] - 3, colour[0] + 5), colour[0]))
            told.append(by_table(line_table(palette, -10 ** 6, 10 ** 6), colour[0]))
        if len(palette) <= 40 and all(number in range(1000) for number in colour):
            asks = [f"nearest p {slashed(colour)}", f"few p 1 {slashed(colour)}", "paint s p", "hand s p same"]
            answers = run(text_of(wide, palette, [[colour]], *asks))
            told.extend(int(answer.split(" : ")[0]) for answer in answers)
        return told

    def test_the_nearest(self):
        rng = dice(451)
        for turn in range(150):
            palette = some_palette(rng, rng.choice((1, 1, 2, 3, 5)))
            colour = asked_for(rng, palette)
            told = self.told_in_all_ways(palette, colour)
            least = min(plain_apart(one, colour) for one in palette)
            plain = [number for number, one in enumerate(palette)
                     if plain_apart(one, colour) == least][0]
            self.assertEqual(told, [plain] * len(told))

    def test_few_and_within(self):
        rng = dice(452)
        for turn in range(80):
            palette = some_palette(rng, rng.randint(1, 5), 40)
            wide, colour = len(palette[0]), rng.choice(palette)
            many, square = rng.randint(0, 40), rng.choice((0, 1, 50, 10 ** 5))
            tree, kept = tree_of(palette, 2), Kept(wide, 2)
            for one in palette:
                kept.put(one)
            few, all_within = nearest_few(palette, colour, many), within(palette, colour, square)
            self.assertEqual([few_in(tree, palette, colour, many), kept.few(colour, many)], [few, few])
            self.assertEqual([within_in(tree, palette, colour, square), kept.within(colour, square)], [all_within] * 2)
            answers = run(text_of(wide, palette, [[colour]], f"few p {many} {slashed(colour)}",
                                  f"within p {square} {slashed(colour)}"))
            self.assertEqual(answers, [" ".join(map(str, few)) or "-", " ".join(map(str, all_within)) or "-"])

    def test_of_kept_colours_behind_changes(self):
        rng = dice(453)
        for turn in range(20):
            kept, there = Kept(2, rng.randint(1, 8)), []
            painting = Painting([[(5, 5)]], [(5, 5)])
            palette = [(5, 5)]
            for change in range(30):
                colour = some_colour(rng, 2, 0, 9)
                number = kept.put(colour)
                there.append((number, colour))
                painting.put_colour(colour)
                palette.append(colour)
                if rng.random() < 0.5:
                    at = rng.randrange(len(there))
                    kept.take(there.pop(at)[0])
                    painting.take_colour(at)
                    palette.pop(at)
                ask = some_colour(rng, 2, 0, 9)
                if there:
                    at = nearest([one for number, one in there], ask)
                    self.assertEqual(kept.nearest(ask), there[at][0])
                painting.set_spot(0, 0, ask)
                self.assertEqual(painting.numbers(), [[nearest(palette, ask)]])
                self.assertEqual(painting.numbers(), Painting([[ask]], palette).numbers())


class MadeOtherwise(unittest.TestCase):
    """All that is told of colours that are moved, mirrored, or have their places exchanged."""

    def ways(self, rng, wide):
        """Ways to make each colour otherwise that keep all apart as they are."""
        by, order = some_colour(rng, wide, 1, 400), rng.sample(range(wide), wide)
        return [lambda colour: tuple(a + b for a, b in zip(colour, by)),
                lambda colour: tuple(999 - a for a in colour),
                lambda colour: tuple(colour[place] for place in order)]

    def test_what_is_told_by_numbers_stays(self):
        rng = dice(454)
        for turn in range(25):
            wide, high = rng.randint(1, 5), rng.choice((3, 30, 500))
            palette = some_colours(rng, wide, rng.randint(1, 12), 0, high)
            other = some_colours(rng, wide, rng.randint(1, 6), 0, high)
            picture = some_picture(rng, wide, high, (3, 4))
            colour = rng.choice(picture[0])

            def told(made):
                mine, its = list(map(made, palette)), list(map(made, other))
                seen = [list(map(made, row)) for row in picture]
                few = [(each, 1) for each in sorted(set(seen[0]))]
                tree = tree_of(mine, 2)
                painting = Painting(seen, mine)
                return [nearest(mine, made(colour)), in_turn(mine, made(colour)), within(mine, made(colour), 99),
                        found_in(tree, mine, made(colour))[0], numbers_by(seen, mine), painting.lost(),
                        painting.put_colour(made(colour)), painting.take_colour(0), painting.undo(),
                        lost_in(seen, painted(numbers_by(seen, mine), mine)), least_change(mine[:6], its, 50),
                        sorted(count for each, count in counts_in(seen)), best_groups(few, 3)[0]]
            first = told(lambda colour: colour)
            for made in self.ways(rng, wide):
                self.assertTrue(alike(told(made), first))

    def test_places_exchanged_in_texts(self):
        rng = dice(455)
        for turn in range(20):
            wide = rng.randint(2, 5)
            palette, picture = some_colours(rng, wide, 5, 0, 99), some_picture(rng, wide, 99, (3, 3))
            asks = ["paint s p", "lost s p", "best s 2", "change p p 5", "for s"]
            first = run(text_of(wide, palette, picture, *asks))
            for made in self.ways(rng, wide):
                changed = [list(map(made, row)) for row in picture]
                self.assertEqual(run(text_of(wide, list(map(made, palette)), changed, *asks)), first)

    def test_palettes_in_another_order(self):
        rng = dice(456)
        for turn in range(60):
            palette = some_palette(rng, rng.randint(1, 4))
            order = rng.sample(range(len(palette)), len(palette))
            turned = [palette[number] for number in order]
            colour = asked_for(rng, palette)
            squares = [plain_apart(one, colour) for one in palette]
            told = order[nearest(turned, colour)]
            self.assertEqual(squares[told], min(squares))
            self.assertEqual(sorted(order[number] for number in within(turned, colour, min(squares))),
                             within(palette, colour, min(squares)))
            picture = some_picture(rng, len(colour), 99, (2, 3))
            self.assertEqual(lost_in(picture, painted(numbers_by(picture, palette), palette)),
                             lost_in(picture, painted(numbers_by(picture, turned), turned)))
            if len(palette) <= 8:
                self.assertEqual(least_change(palette, turned, 3)[0], 0)


class Shown(unittest.TestCase):
    def test_middles_at_rest(self):
        rng = dice(457)
        for turn in range(25):
            wide = rng.randint(1, 4)
            rows = counts_in(some_picture(rng, wide, rng.choice((5, 99)), (5, 6)))
            middles = [as_middle(colour) for colour in palette_by_cuts(rows, rng.randint(1, 6))]
            last, steps = at_rest(rows, middles)
            self.assertIs(is_resting(rows, last), True)
            self.assertEqual(moved_once(rows, last), last)
            falls = [Fraction(*step) for step in steps]
            self.assertEqual(falls, sorted(set(falls), reverse=True))
            self.assertEqual(steps[-1], lost_by(rows, last))

    def test_the_best_is_shown_and_no_other_way_is_less(self):
        rng = dice(458)
        for turn in range(40):
            wide = rng.randint(1, 3)
            rows = counts_in(some_picture(rng, wide, rng.choice((2, 50)), (1, rng.randint(1, 7))))
            many = rng.randint(1, 4)
            total, groups = best_groups(rows, many)
            self.assertIs(shows_best(rows, many, total, best_paper(rows, many)), True)
            self.assertEqual(total_of(groups), total)
            self.assertLessEqual(Fraction(*total), Fraction(*total_of(cut_groups(rows, many))))
            middles = [as_middle(colour) for colour in palette_by_cuts(rows, many)]
            self.assertLessEqual(Fraction(*total), Fraction(*at_rest(rows, middles)[1][-1]))
            if wide == 1:
                self.assertEqual(best_on_line(rows, many)[0], total)

    def test_what_is_handed_on_is_lost_nowhere_but_at_the_end(self):
        rng = dice(459)
        for turn in range(40):
            picture = some_picture(rng, rng.randint(1, 4), 99, rng.choice(((1, 1), (4, 5), (7, 3))))
            palette = some_colours(rng, len(picture[0][0]), rng.randint(1, 5), 0, 99)
            for way in ("same", "turned"):
                numbers, lost = handed_on(picture, palette, SHARES[:rng.randint(0, 4)], way)
                ahead = [sum(place) for place in zip(*[colour for row in picture for colour in row])]
                behind = [sum(place) for place in zip(*[palette[number] for row in numbers for number in row], lost)]
                self.assertEqual(ahead, behind)

    def test_a_least_change_is_shown(self):
        rng = dice(460)
        for turn in range(60):
            wide = rng.randint(1, 4)
            one, other = some_colours(rng, wide, 5, 0, 20), some_colours(rng, wide, 6, 0, 20)
            price = rng.choice((0, 1, 30, 10 ** 7))
            cost, pairs = least_change(one, other, price)
            self.assertEqual(cost_of(one, other, price, pairs), cost)
            self.assertIs(shows_change(one, other, price, pairs, change_paper(one, other, price)), True)

    def test_tables_and_trees(self):
        rng = dice(461)
        for turn in range(40):
            palette = some_palette(rng, 1)
            self.assertIs(shows_table(palette, -50, 1050, line_table(palette, -50, 1050)), True)
            self.assertIs(is_tree(palette, 3, tree_of(palette, 3)), True)


PALETTE = [(1, 2), (30, 4), (5, 60), (1, 2), (90, 90)]
OTHER = [(2, 2), (80, 90), (5, 61)]
PICTURE = [[(1, 2), (33, 8)], [(5, 40), (90, 70)], [(1, 2), (0, 0)]]
ROWS = counts_in(PICTURE)
LINE = [((number * number,), number + 1) for number in range(8)]
MIDDLES = [as_middle(colour) for colour in PALETTE]
PLAIN_TEXT = text_of(2, PALETTE, PICTURE, "paint s p", "hand s p turned 1/0/7 0/1/5", "best s 2", "likest p 9", "for s")
QUESTIONS = [
    (nearest, PALETTE, (7, 7)), (in_turn, PALETTE, (7, 7)), (nearest_few, PALETTE, (7, 7), 3),
    (within, PALETTE, (7, 7), 900), (nearest_middle, MIDDLES, (7, 7)), (line_table, [(5,), (1,), (9,)], -3, 12),
    (tree_of, PALETTE, 1), (found_in, tree_of(PALETTE, 1), PALETTE, (7, 7)),
    (few_in, tree_of(PALETTE, 2), PALETTE, (7, 7), 3), (within_in, tree_of(PALETTE, 2), PALETTE, (7, 7), 900),
    (counts_in, PICTURE), (most_used, PICTURE, 3), (numbers_by, PICTURE, PALETTE), (painted, [[0, 1], [4, 4]], PALETTE),
    (lost_in, PICTURE, PICTURE[::-1]), (handed_on, PICTURE, PALETTE, SHARES, "turned"),
    (wanted_by, PICTURE, PALETTE, SHARES, "same", [[0, 1], [2, 3], [4, 0]]), (cut_groups, ROWS, 3),
    (palette_by_cuts, ROWS, 3), (at_rest, ROWS, MIDDLES), (palette_at_rest, ROWS, PALETTE), (best_groups, ROWS, 2),
    (best_paper, ROWS, 2), (shows_best, ROWS, 2, best_groups(ROWS, 2)[0], best_paper(ROWS, 2)), (best_on_line, LINE, 3),
    (cost_of, PALETTE, OTHER, 5, [(0, 1), (3, 0)]), (least_change, PALETTE, OTHER, 50),
    (change_paper, PALETTE, OTHER, 50),
    (shows_change, PALETTE, OTHER, 50, least_change(PALETTE, OTHER, 50)[1], change_paper(PALETTE, OTHER, 50)),
    (run, PLAIN_TEXT),
]


class Own(unittest.TestCase):
    def test_the_same_again_by_turns_with_other_questions(self):
        rng = dice(462)
        first = [copy.deepcopy(ask(*copy.deepcopy(handed))) for ask, *handed in QUESTIONS]
        for turn in range(300):
            at = rng.randrange(len(QUESTIONS))
            ask, *handed = copy.deepcopy(QUESTIONS[at])
            told = ask(*handed)
            self.assertTrue(alike(told, first[at]), ask)
            self.assertTrue(alike(handed, list(QUESTIONS[at][1:])), ask)
            for each in lists_in(told) + lists_in(handed):
                each.insert(0, "mine")

    def test_objects_by_turns(self):
        book, kept, painting = Book(), Kept(2, 2), Painting(PICTURE, PALETTE)
        book.put("a", PALETTE)
        book.put("b", painting.palette())
        for colour in book.palette_of("a"):
            kept.put(colour)
        painting.take_colour(0)
        kept.take(0)
        self.assertEqual(book.palette_of("b"), PALETTE)
        self.assertEqual(book.likest("a", 5), [(0, "b")])
        self.assertEqual([kept.colour_of(number) for number in kept.all_numbers()], painting.palette())
        self.assertEqual(painting.palette(), PALETTE[1:])
        book.put("c", painting.palette())
        painting.undo()
        self.assertEqual(book.palette_of("c"), PALETTE[1:])
        self.assertEqual(book.best_for(painting.picture())[1], painting.lost())
        self.assertEqual(PALETTE, [(1, 2), (30, 4), (5, 60), (1, 2), (90, 90)])

    def test_what_was_told_is_handed_in_again(self):
        rng = dice(463)
        for turn in range(10):
            picture = some_picture(rng, 3, 999, (16, 16))
            many = rng.choice((12, 40, 60))
            rows = counts_in(picture)
            palette = palette_by_cuts(rows, many)
            painting = Painting(picture, palette)
            told = painted(numbers_by(picture, palette), palette)
            self.assertEqual(painted(painting.numbers(), painting.palette()), told)
            wanted = wanted_by(picture, palette, SHARES, "turned", painting.numbers())
            self.assertEqual(numbers_by(wanted, palette), [[nearest(palette, each) for each in row] for row in wanted])
            book = Book()
            book.put("a", palette)
            self.assertEqual(book.best_for(painting.picture()), ("a", painting.lost()))


if __name__ == "__main__":
    unittest.main()
