import unittest
from fractions import Fraction

from fewcolours.best import best_groups, best_paper
from fewcolours.bestcheck import shows_best
from tests.samples import (ANYTHING, CROSS, GRID, LIKE, LINE, as_pair, check_own, deep, dice, plain_spread,
                           some_few_rows, some_thing, with_part)

DEAR = ("dear",)
SMALL = [Fraction(1, 10 ** 40), Fraction(1, 7), Fraction(1), Fraction(10 ** 9)]


def plain_shows(rows, many, total, tree, groups=()):
    """What shows_best must tell, straight from point [14]; total is a Fraction."""
    if type(tree) is not tuple or len(tree) not in (1, 3):
        return False
    if len(tree) == 1:
        spreads = [plain_spread([rows[place] for place in sorted(group)]) for group in groups]
        return type(tree[0]) is str and tree[0] == "dear" and sum(spreads, Fraction(0)) >= total
    word, place, trees = tree
    if type(word) is not str or word != "next" or type(place) is not int or type(trees) is not tuple:
        return False
    if place not in range(len(rows)) or any(place in group for group in groups):
        return False
    grown = [groups[:at] + (groups[at] | {place},) + groups[at + 1:] for at in range(len(groups))]
    if len(groups) < many:
        grown.append(groups + (frozenset([place]),))
    if len(grown) != len(trees):
        return False
    return all(plain_shows(rows, many, total, below, group) for below, group in zip(trees, grown))


def any_bounds(rng, rows, many, total, groups=()):
    """A tree of bounds made by chance: in each branch another row, sometimes a row more than there need be."""
    left = [place for place in range(len(rows)) if not any(place in group for group in groups)]
    spread = sum((plain_spread([rows[place] for place in group]) for group in groups), Fraction(0))
    if left == [] or (spread >= total and rng.random() < 0.7):
        return DEAR
    place = rng.choice(left)
    grown = [groups[:at] + (groups[at] + (place,),) + groups[at + 1:] for at in range(len(groups))]
    if len(groups) < many:
        grown.append(groups + ((place,),))
    return ("next", place, tuple(any_bounds(rng, rows, many, total, each) for each in grown))


def nodes_otherwise(node, rows):
    """What may stand in the place of one node."""
    yield from [("next",), ("Dear",), ("dear", "dear"), ("dear", 0, ()), ("",), (), ["dear"], "dear", None, True, 0,
                (None,), ((("dear",),),), (("dear",),), ("next", 0), ("next", 0, ()), ("next", 0, (DEAR,)),
                ("next", 0, (DEAR, DEAR)), ("dear", 0, (DEAR,))]
    if node == DEAR:
        yield ("next", len(rows) - 1, (DEAR,))
        return
    word, place, trees = node
    yield DEAR
    yield list(node)
    for other in ("dear", "nex", "Next", "", None, True, ["next"], ("next",)):
        yield (other, place, trees)
    others = (*range(-2, len(rows) + 2), True, False, None, str(place), (place,), [place], 10 ** 30)
    for other in others:
        yield (word, other, trees)
    for other in (trees[:-1], trees[1:], trees + trees[-1:], trees + (DEAR,), trees[::-1], list(trees), (), [], None,
                  (trees,), DEAR, "trees", len(trees)):
        yield (word, place, other)
    yield (word, place)
    yield (word, place, trees, trees)
    yield (word, place, trees, None)
    yield (place, word, trees)
    yield trees


def trees_otherwise(tree, rows):
    """The tree with one node, anywhere in it, otherwise."""
    yield from nodes_otherwise(tree, rows)
    if tree != DEAR:
        for at, below in enumerate(tree[2]):
            for other in trees_otherwise(below, rows):
                yield ("next", tree[1], with_part(tree[2], at, other))


class ShowsBest(unittest.TestCase):
    def check(self, rows, many, total, tree, told):
        self.assertIs(shows_best(rows, many, as_pair(total), tree), told)

    def check_as_plain(self, rows, many, total, tree):
        told = plain_shows(rows, many, total, tree)
        self.assertIs(shows_best(rows, many, as_pair(total), tree), told, (rows, many, total, tree))
        return told

    def check_paper(self, rows, many):
        least = Fraction(*best_groups(rows, many)[0])
        tree = best_paper(rows, many)
        self.check(rows, many, least, tree, True)
        for less in SMALL + [least, least / 3]:
            self.check(rows, many, least - less, tree, True)
        for more in SMALL:
            self.check(rows, many, least + more, tree, False)

    def test_told_by_hand(self):
        one, two, three = LINE[:1], LINE[:2], LINE[:3]
        self.check(one, 1, Fraction(0), DEAR, True)
        self.check(one, 1, Fraction(-1), DEAR, True)
        self.check(one, 1, Fraction(1, 9), DEAR, False)
        self.check(one, 1, Fraction(0), ("next", 0, (DEAR,)), True)
        self.check(one, 1, Fraction(1, 9), ("next", 0, (DEAR,)), False)
        self.check(two, 1, Fraction(1, 2), ("next", 0, (("next", 1, (DEAR,)),)), True)
        self.check(two, 1, Fraction(1, 2), ("next", 1, (("next", 0, (DEAR,)),)), True)
        self.check(two, 1, Fraction(1, 2), ("next", 1, (("next", 1, (DEAR,)),)), False)
        self.check(two, 1, Fraction(1, 2), ("next", 1, (("next", 0, (DEAR, DEAR)),)), False)
        self.check(two, 2, Fraction(1, 2), ("next", 1, (("next", 0, (DEAR, DEAR)),)), False)
        self.check(two, 2, Fraction(0), ("next", 1, (("next", 0, (DEAR, DEAR)),)), True)
        self.check(two, 2, Fraction(0), ("next", 1, (("next", 0, (DEAR,)),)), False)
        # In the second branch another row is put than in the first.
        tree = ("next", 0, (("next", 2, (DEAR, ("next", 1, (DEAR, DEAR)))),))
        self.check(three, 2, Fraction(1, 2), tree, True)
        self.check(three, 2, Fraction(51, 100), tree, False)

    def test_the_groups_stand_in_the_order_in_which_they_were_begun(self):
        # Row 2 begins the first group, row 0 the second one: row 1 is dear in the first only.
        rows = [((0,), 1), ((1,), 1), ((9,), 1)]
        in_order = ("next", 2, (("next", 0, (DEAR, ("next", 1, (DEAR, DEAR)))),))
        self.check(rows, 2, Fraction(1, 2), in_order, True)
        self.check(rows, 2, Fraction(1), in_order, False)
        rows = [((0,), 1), ((1,), 1), ((2,), 1), ((99,), 1)]
        behind = ("next", 1, (DEAR, ("next", 2, (DEAR, DEAR))))
        ahead = ("next", 1, (("next", 2, (DEAR, DEAR)), DEAR))
        self.check(rows, 2, Fraction(2), ("next", 3, (("next", 0, (DEAR, behind)),)), True)
        self.check(rows, 2, Fraction(2), ("next", 3, (("next", 0, (DEAR, ahead)),)), False)
        self.check(rows, 2, Fraction(2), ("next", 0, (("next", 3, (DEAR, ahead)),)), True)
        self.check(rows, 2, Fraction(2), ("next", 0, (("next", 3, (DEAR, behind)),)), False)

    def test_of_what_best_paper_tells(self):
        rng = dice(301)
        for turn in range(60):
            rows = some_few_rows(rng, rng.randint(1, 6))
            for many in (1, 2, 3, 4):
                self.check_paper(rows, many)

    def test_of_what_best_paper_tells_of_many_rows(self):
        rng = dice(302)
        for rows in LIKE + [some_few_rows(rng, 9) for turn in range(3)]:
            for many in (1, 2, 3, 4):
                self.check_paper(rows, many)

    def test_of_trees_made_in_other_ways(self):
        rng = dice(303)
        for turn in range(150):
            rows = some_few_rows(rng, rng.randint(1, 6))
            many = rng.randint(1, 4)
            least = Fraction(*best_groups(rows, many)[0])
            tree = any_bounds(rng, rows, many, least)
            self.check(rows, many, least, tree, True)
            for less in SMALL:
                self.check(rows, many, least - less, tree, True)
                self.check(rows, many, least - less, any_bounds(rng, rows, many, least - less), True)

    def test_a_greater_total_is_shown_by_no_tree(self):
        rng = dice(304)
        for turn in range(150):
            rows = some_few_rows(rng, rng.randint(1, 5))
            many = rng.randint(1, 4)
            least = Fraction(*best_groups(rows, many)[0])
            for more in SMALL:
                # Such a tree goes on to the last row where it must, and is dear there though it is not.
                tree = any_bounds(rng, rows, many, least + more)
                self.assertIs(plain_shows(rows, many, least + more, tree), False)
                self.check(rows, many, least + more, tree, False)
                self.check(rows, many, least + more, best_paper(rows, many), False)

    def test_of_nine_rows_gone_on_with_to_the_last(self):
        rng = dice(305)
        for rows, many in ((GRID[:7], 3), (CROSS, 2), (LINE, 2)):
            tree = any_bounds(rng, rows, many, Fraction(10 ** 9))
            least = Fraction(*best_groups(rows, many)[0])
            self.check(rows, many, least, tree, True)
            self.check(rows, many, least + SMALL[0], tree, False)

    def test_of_one_node_otherwise(self):
        rng = dice(306)
        told = {True: 0, False: 0}
        for turn in range(60):
            rows = some_few_rows(rng, rng.randint(1, 4))
            many = rng.randint(1, 4)
            least = Fraction(*best_groups(rows, many)[0])
            for tree in (best_paper(rows, many), any_bounds(rng, rows, many, least)):
                for other in trees_otherwise(tree, rows):
                    told[self.check_as_plain(rows, many, least, other)] += 1
        self.assertGreater(told[True], 100)
        self.assertGreater(told[False], 1000)

    def test_of_one_node_otherwise_for_a_total_of_nothing(self):
        # Where all is dear from the first only the form is left to be looked at.
        for rows, many in ((LINE[:3], 2), (LINE[:2], 3), (GRID[:3], 1)):
            tree = any_bounds(dice(307), rows, many, Fraction(10 ** 9))
            for other in trees_otherwise(tree, rows):
                self.check_as_plain(rows, many, Fraction(0), other)

    def test_of_the_tree_of_others(self):
        rng = dice(308)
        told = {True: 0, False: 0}
        for turn in range(200):
            rows, others = some_few_rows(rng, rng.randint(1, 5)), some_few_rows(rng, rng.randint(1, 5))
            many, more = rng.randint(1, 4), rng.randint(1, 4)
            tree = best_paper(others, more)
            for total in (Fraction(*best_groups(rows, many)[0]), Fraction(*best_groups(others, more)[0]), Fraction(0)):
                told[self.check_as_plain(rows, many, total, tree)] += 1
                told[self.check_as_plain(rows, more, total, best_paper(rows, many))] += 1
                told[self.check_as_plain(others, many, total, tree)] += 1
        self.assertGreater(min(told.values()), 100)

    def test_of_anything(self):
        rng = dice(309)
        things = ANYTHING + [deep(20), DEAR * 2, ["dear"], ("dear", ()), ("next", 0, ("dear",)), ("next", 0, "dear")]
        things += [some_thing(rng, rng.choice((1, 2, 3, 4, 20))) for turn in range(1500)]
        asked = [(rows, many, Fraction(*best_groups(rows, many)[0]))
                 for rows, many in ((LINE[:1], 1), (LINE[:3], 2), (GRID, 4))]
        for thing in things:
            for rows, many, least in asked:
                self.check_as_plain(rows, many, least, thing)
                self.check_as_plain(rows, many, Fraction(0), thing)

    def test_of_anything_below_a_right_node(self):
        rng = dice(310)
        for turn in range(1500):
            thing = some_thing(rng, rng.choice((1, 2, 3, 16)))
            self.check_as_plain(LINE[:3], 2, Fraction(1, 2), ("next", 0, (thing,)))
            self.check_as_plain(LINE[:3], 2, Fraction(1, 2), ("next", thing, (DEAR,)))
            self.check_as_plain(LINE[:3], 2, Fraction(0), ("next", 0, (("next", 2, (DEAR, thing)),)))
            self.check_as_plain(LINE[:3], 2, Fraction(0), (thing, 0, (DEAR,)))
            self.check_as_plain(LINE[:3], 2, Fraction(0), (thing,))

    def test_what_is_no_fraction_is_no_total(self):
        for total in (None, 0, True, (0,), (0, 0), (0, 2), (2, 4), [0, 1], (0, True), "01"):
            self.assertIs(shows_best(LINE[:1], 1, total, DEAR), False)

    def test_what_is_handed_in_and_told(self):
        for rows, many in ((LINE[:1], 1), (GRID, 3)):
            check_own(self, shows_best, list(rows), many, best_groups(rows, many)[0], best_paper(rows, many))
            check_own(self, shows_best, list(rows), many, (1, 3), [list(best_paper(rows, many))])


if __name__ == "__main__":
    unittest.main()
