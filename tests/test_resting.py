import unittest
from fractions import Fraction

from fewcolours.looking import nearest_middle
from fewcolours.middles import as_middle, middle_of
from fewcolours.resting import at_rest, is_resting, lost_by, moved_once, palette_at_rest, shared_out
from tests.samples import (ANYTHING, alike, as_pair, check_own, deep, dice, plain_far, some_colours, some_fraction,
                           some_rows, some_thing)


def fractions_of(middle):
    return [Fraction(top, bottom) for top, bottom in middle]


def plain_share(rows, middles):
    """For each middle its rows, by Python's own fractions."""
    shared = [[] for middle in middles]
    for colour, count in rows:
        fars = [plain_far(colour, fractions_of(middle)) for middle in middles]
        shared[fars.index(min(fars))].append((colour, count))
    return shared


def plain_lost(rows, middles):
    least = [min(plain_far(colour, fractions_of(middle)) for middle in middles) * count for colour, count in rows]
    return as_pair(sum(least, Fraction(0)))


def plain_moved(rows, middles):
    moved = []
    for group, middle in zip(plain_share(rows, middles), middles):
        total = sum(count for colour, count in group)
        if total:
            middle = tuple(as_pair(Fraction(sum(colour[at] * count for colour, count in group), total))
                           for at in range(len(middle)))
        moved.append(middle)
    return moved


def some_middles(rng, wide, many, high):
    """Middles among the colours and far off, some alike."""
    middles = []
    for number in range(many):
        kind = rng.randrange(4)
        if kind == 0 and middles:
            middles.append(rng.choice(middles))
        elif kind == 1 and rng.random() < 0.3:
            middles.append(tuple(as_pair(some_fraction(rng)) for place in range(wide)))
        elif kind == 2:
            middles.append(tuple(as_pair(Fraction(rng.randint(0, 6 * high), 6)) for place in range(wide)))
        else:
            middles.append(as_middle(tuple(rng.randint(0, high) for place in range(wide))))
    return middles


def some_questions(seed, turns):
    rng = dice(seed)
    for turn in range(turns):
        wide, high = rng.randint(1, 5), rng.choice((2, 9, 999))
        rows = some_rows(rng, wide, rng.choice((1, 2, 4, 9, 20, 60)), 0, high)
        if rng.random() < 0.5:
            rows = [(colour, rng.randint(1, 3)) for colour, count in rows]
        yield rows, some_middles(rng, wide, rng.choice((1, 2, 3, 5, 12)), high)


class SharedOut(unittest.TestCase):
    def test_told_by_hand(self):
        rows = [((0,), 3), ((4,), 1), ((9,), 2)]
        self.assertEqual(shared_out(rows, [((8, 1),), ((1, 1),)]), [rows[2:], rows[:2]])
        self.assertEqual(shared_out(rows, [((1, 2),)]), [rows])
        self.assertEqual(shared_out(rows, [((100, 1),), ((4, 1),), ((-100, 1),)]), [[], rows, []])

    def test_ties_go_to_the_least_number(self):
        rows = [((1,), 5), ((2,), 1)]
        self.assertEqual(shared_out(rows, [((3, 1),), ((1, 1),)]), [rows[1:], rows[:1]])
        self.assertEqual(shared_out(rows, [((1, 1),), ((3, 1),)]), [rows, []])
        self.assertEqual(shared_out(rows, [((9, 2),), ((5, 2),), ((3, 2),)]), [[], rows[1:], rows[:1]])

    def test_alike_middles(self):
        rows = [((1,), 5), ((2,), 1)]
        self.assertEqual(shared_out(rows, [((1, 1),)] * 3), [rows, [], []])

    def test_against_fractions(self):
        for rows, middles in some_questions(221, 60):
            told = shared_out(rows, middles)
            self.assertTrue(alike(told, plain_share(rows, middles)))
            for number, group in enumerate(told):
                for colour, count in group:
                    self.assertEqual(nearest_middle(middles, colour), number)


class LostBy(unittest.TestCase):
    def test_told_by_hand(self):
        rows = [((0,), 3), ((4,), 1), ((9,), 2)]
        self.assertEqual(lost_by(rows, [((8, 1),), ((1, 1),)]), (3 + 9 + 2, 1))
        self.assertEqual(lost_by(rows, [((1, 2),)]), (315, 2))
        self.assertEqual(lost_by([((5, 5), 1000)], [((5, 1), (5, 1))]), (0, 1))

    def test_against_fractions(self):
        for rows, middles in some_questions(222, 60):
            self.assertTrue(alike(lost_by(rows, middles), plain_lost(rows, middles)))


class MovedOnce(unittest.TestCase):
    def test_told_by_hand(self):
        rows = [((0,), 3), ((4,), 1), ((9,), 2)]
        self.assertEqual(moved_once(rows, [((8, 1),), ((1, 1),)]), [((9, 1),), ((1, 1),)])
        self.assertEqual(moved_once(rows, [((8, 1),), ((3, 1),)]), [((9, 1),), ((1, 1),)])
        self.assertEqual(moved_once(rows, [((5, 3),)]), [((11, 3),)])

    def test_one_without_rows_stays(self):
        rows = [((0, 1), 1), ((1, 1), 2)]
        far, alone = ((999, 7), (-5, 3)), ((500, 1), (1, 1))
        self.assertEqual(moved_once(rows, [far, ((0, 1), (0, 1)), alone]), [far, ((2, 3), (1, 1)), alone])
        same = ((1, 2), (1, 2))
        self.assertEqual(moved_once(rows, [same, same]), [((2, 3), (1, 1)), same])

    def test_against_fractions(self):
        for rows, middles in some_questions(223, 60):
            self.assertTrue(alike(moved_once(rows, middles), plain_moved(rows, middles)))


class IsResting(unittest.TestCase):
    def test_told_by_hand(self):
        rows = [((0,), 3), ((4,), 1), ((9,), 2)]
        self.assertIs(is_resting(rows, [((9, 1),), ((1, 1),)]), True)
        self.assertIs(is_resting(rows, [((1, 1),), ((9, 1),)]), True)
        self.assertIs(is_resting(rows, [((8, 1),), ((1, 1),)]), False)
        self.assertIs(is_resting(rows, [((9, 1),), ((1, 1),), ((999, 2),)]), True)
        self.assertIs(is_resting(rows, [((11, 3),)]), True)
        self.assertIs(is_resting(rows, [((11, 3),)] * 2), True)
        self.assertIs(is_resting(rows, [((4, 1),)]), False)

    def test_just_where_moved_once_changes_none(self):
        resting = 0
        for rows, middles in some_questions(224, 60):
            self.assertIs(is_resting(rows, middles), plain_moved(rows, middles) == middles)
            last = at_rest(rows, middles)[0]
            self.assertIs(is_resting(rows, last), True)
            resting += is_resting(rows, middles)
            # One number of one middle that has rows a little otherwise, and it rests no more.
            for number, group in enumerate(shared_out(rows, last)):
                if len(group) > 0:
                    nudged = list(last)
                    top, bottom = last[number][0]
                    nudged[number] = (as_pair(Fraction(top, bottom) + Fraction(1, 10 ** 9)),) + last[number][1:]
                    self.assertIs(is_resting(rows, nudged), plain_moved(rows, nudged) == nudged)
                    break
        self.assertGreater(resting, 0)

    def test_anything(self):
        rows = [((0,), 3), ((4,), 1), ((9,), 2)]
        right = [((9, 1),), ((1, 1),)]
        wrong = [tuple(right), [list(right[0]), right[1]], [((9, 1),), ([1, 1],)], [((9, 1),), ((True, 1),)],
                 [((9, 1),), ((1, True),)], [((9, True),), ((1, 1),)], [((9, 1),), ((2, 2),)], [((9, 1),), ((-1, -1),)],
                 [((9, 1),), ((1, 0),)], [((9, 1), (1, 1))], [((9, 1),), ()], [(9,), (1,)], [(9, 1), (1, 1)],
                 [((9, 1),), ((1, 1),), ((0, 2),)], [((9, 1),), ((1, 1),), ((5, 0),)], [((9, 1),), ((1, 1),), ((0, 0),)],
                 [((9, 1),), ((1, 1, 1),)], [((9, 1),), ((1,),)], right + [None], [None], [], deep(20), [deep(19)]]
        # Where a middle has no rows it stays, whatever it is: so these are told apart by their own form alone.
        for thing in (((999, 1),), ((1999, 2),), ((-999, 1),)):
            self.assertIs(is_resting(rows, right + [thing]), True, thing)
        for thing in (((1998, 2),), ((-999, -1),), ((999, -1),), ((999, 1), (0, 1)), ((1, 0),), ((-1, 0),), ((999, 1), None)):
            wrong.append(right + [thing])
        for thing in wrong + ANYTHING:
            self.assertIs(is_resting(rows, thing), False, thing)
            self.assertIs(is_resting(rows, [thing]), False, thing)
            self.assertIs(is_resting(rows, right + [thing]), False, thing)
        wide_rows = [((0, 0), 1), ((2, 0), 1)]
        self.assertIs(is_resting(wide_rows, [((1, 1), (0, 1)), ((999, 1), (0, 1))]), True)
        for thing in [thing for thing in ANYTHING if thing not in ((0, 1), (1, 2))]:
            for middle in ((thing, (0, 1)), ((999, 1), thing), (thing, thing)):
                self.assertIs(is_resting(wide_rows, [((1, 1), (0, 1)), middle]), False, middle)
        rng = dice(225)
        for turn in range(1500):
            self.assertIs(is_resting(rows, some_thing(rng, rng.randint(0, 5))), False)


class AtRest(unittest.TestCase):
    def test_told_by_hand(self):
        rows = [((0,), 1), ((1,), 1), ((10,), 1), ((11,), 1)]
        self.assertEqual(at_rest(rows, [((0, 1),), ((1, 1),)]), ([((1, 2),), ((21, 2),)], [(181, 1), (194, 9), (1, 1)]))
        self.assertEqual(at_rest(rows, [((1, 2),), ((21, 2),)]), ([((1, 2),), ((21, 2),)], [(1, 1)]))
        self.assertEqual(at_rest([((5,), 7)], [((3, 1),)]), ([((5, 1),)], [(28, 1), (0, 1)]))

    def test_one_that_never_has_rows(self):
        rows = [((0,), 1), ((2,), 1)]
        self.assertEqual(at_rest(rows, [((900, 1),), ((0, 1),)]), ([((900, 1),), ((1, 1),)], [(4, 1), (2, 1)]))
        self.assertEqual(at_rest(rows, [((5, 1),)] * 2), ([((1, 1),), ((5, 1),)], [(34, 1), (2, 1)]))

    def test_against_fractions(self):
        moves = 0
        for rows, middles in some_questions(226, 50):
            last, steps = at_rest(rows, middles)
            plain, lost = list(middles), [plain_lost(rows, middles)]
            while plain_moved(rows, plain) != plain:
                plain = plain_moved(rows, plain)
                lost.append(plain_lost(rows, plain))
            self.assertTrue(alike((last, steps), (plain, lost)))
            moves = max(moves, len(steps))
        self.assertGreater(moves, 4)

    def test_what_the_document_says_of_it(self):
        for rows, middles in some_questions(227, 60):
            told = at_rest(rows, middles)
            self.assertIs(type(told), tuple)
            last, steps = told
            falling = [Fraction(top, bottom) for top, bottom in steps]
            self.assertTrue(all(one > other for one, other in zip(falling, falling[1:])))
            self.assertEqual(steps[0], lost_by(rows, middles))
            self.assertEqual(steps[-1], lost_by(rows, last))
            self.assertEqual(moved_once(rows, last), last)
            self.assertIs(is_resting(rows, last), True)
            self.assertEqual(len(last), len(middles))
            self.assertEqual(at_rest(rows, last), (last, steps[-1:]))
            for group, middle in zip(shared_out(rows, last), last):
                if group:
                    self.assertEqual(middle, middle_of(group))


class PaletteAtRest(unittest.TestCase):
    def test_told_by_hand(self):
        rows = [((0,), 1), ((1,), 1), ((10,), 1), ((11,), 1)]
        self.assertEqual(palette_at_rest(rows, [(0,), (1,)]), [(1,), (11,)])
        self.assertEqual(palette_at_rest(rows, [(1,), (0,)]), [(11,), (1,)])
        self.assertEqual(palette_at_rest(rows, [(5,)]), [(6,)])
        # At first all goes to the first of two alike ones; then what is behind is nearer to the other.
        self.assertEqual(palette_at_rest(rows, [(5,), (5,)]), [(11,), (1,)])
        self.assertEqual(palette_at_rest(rows, [(900,), (5,)]), [(900,), (6,)])

    def test_of_one_to_twelve_colours(self):
        rng = dice(228)
        for many in range(1, 13):
            for turn in range(4):
                wide = rng.randint(1, 5)
                rows = some_rows(rng, wide, rng.choice((1, 5, 60)), 0, rng.choice((3, 999)))
                palette = some_colours(rng, wide, many, 0, rng.choice((3, 999)))
                middles = [as_middle(colour) for colour in palette]
                while plain_moved(rows, middles) != middles:
                    middles = plain_moved(rows, middles)
                # Of two the greater number: a half more, and then down.
                told = [tuple((fraction + Fraction(1, 2)) // 1 for fraction in fractions_of(middle)) for middle in middles]
                self.assertTrue(alike(palette_at_rest(rows, palette), told))


class Own(unittest.TestCase):
    def test_what_is_handed_in_and_told(self):
        rows = [((0, 1), 3), ((4, 4), 1), ((9, 2), 2)]
        moving = [((8, 1), (1, 1)), ((1, 1), (7, 2)), ((999, 1), (0, 1))]
        resting = at_rest(rows, moving)[0]
        for middles in (moving, resting, moving[:1]):
            for ask in (shared_out, lost_by, moved_once, is_resting, at_rest):
                check_own(self, ask, list(rows), list(middles))
        check_own(self, palette_at_rest, list(rows), [(0, 0), (9, 9)])


if __name__ == "__main__":
    unittest.main()
