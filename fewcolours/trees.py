"""Trees of boxes, and the nearest found in them."""

from fewcolours.boxes import box_of, longest_place, near_box
from fewcolours.colours import apart
from fewcolours.looking import rank_of


def halved(palette, most, numbers):
    """A tree of these numbers of the palette."""
    box = box_of([palette[number] for number in numbers])
    if len(numbers) <= max(most, 1):
        return ("leaf", box, tuple(sorted(numbers)))
    place = longest_place(box)
    order = sorted([(palette[number][place], number) for number in numbers])
    turned = [number for along, number in order]
    half = len(turned) // 2
    return ("node", box, halved(palette, most, turned[:half]), halved(palette, most, turned[half:]))


def tree_of(palette, most):
    """A tree of all the palette's numbers, of leaves with at most so many."""
    return halved(palette, most, list(range(len(palette))))


def leaves_of(tree):
    """The list of all leaves of a tree."""
    leaves = []
    waiting = [tree]
    while waiting != []:
        node = waiting.pop()
        if node[0] == "leaf":
            leaves.append(node)
        else:
            waiting.extend(node[2:])
    return leaves


def numbers_in(tree):
    """The rising tuple of all numbers of a tree."""
    return tuple(sorted([number for leaf in leaves_of(tree) for number in leaf[2]]))


def first_rank(tree, colour):
    """A rank that none of the tree's numbers is ahead of."""
    return (near_box(colour, tree[1]), numbers_in(tree)[0])


def are_ahead(ranks, many, rank):
    """Whether there are so many rising ranks that are ahead of this one."""
    return many <= 0 or (len(ranks) >= many and ranks[many - 1] < rank)


def looked_and_left(tree, palette, colour, many):
    """A pair: the rising ranks of those looked at, the first many of all among them; the nodes passed over."""
    ranks = []
    waiting = [(first_rank(tree, colour), tree)]
    # The node that may hold the nearest comes first, so no leaf is looked at that is farther off than what is told;
    # and where that node is passed over, so are all others.
    while waiting != [] and not are_ahead(ranks, many, waiting[0][0]):
        node = waiting.pop(0)[1]
        if node[0] == "leaf":
            ranks = sorted(ranks + [rank_of(palette, colour, number) for number in node[2]])
        else:
            waiting = sorted(waiting + [(first_rank(half, colour), half) for half in node[2:]])
    return (ranks, [node for rank, node in waiting])


def found_in(tree, palette, colour):
    """A pair (number, paper): the nearest, and what was looked at and passed over."""
    ranks, left = looked_and_left(tree, palette, colour, 1)
    looked = sorted([number for square, number in ranks])
    passed = [(node[1], numbers_in(node)) for node in left]
    return (ranks[0][1], (looked, passed))


def few_in(tree, palette, colour, many):
    """What nearest_few tells, found in the tree."""
    ranks = looked_and_left(tree, palette, colour, many)[0]
    return [number for square, number in ranks[:many]]


def within_in(tree, palette, colour, square):
    """What within tells, found in the tree."""
    numbers = []
    waiting = [tree]
    while waiting != []:
        node = waiting.pop()
        if near_box(colour, node[1]) > square:
            continue
        if node[0] == "leaf":
            numbers.extend([number for number in node[2] if apart(palette[number], colour) <= square])
        else:
            waiting.extend(node[2:])
    return sorted(numbers)
