"""The checkers of trees of boxes, and of papers that show the nearest."""

from fewcolours.boxes import box_of, holds, is_box, near_box
from fewcolours.colours import are_rising, is_number
from fewcolours.looking import rank_of


def are_some(palette, numbers):
    """Whether the things of a list or tuple are one or more of the palette's numbers, rising."""
    if len(numbers) == 0 or not are_rising(numbers):
        return False
    return numbers[0] >= 0 and numbers[-1] < len(palette)


def is_just_box(palette, box, numbers):
    """Whether a thing is the least box that holds the colours of these numbers."""
    # Python takes True for 1 where it compares, so what is equal need not be a box.
    return is_box(box, len(palette[0])) and box == box_of([palette[number] for number in numbers])


def numbers_of_leaf(palette, most, numbers):
    """A leaf's numbers as a list, empty where they are not as they must be."""
    if not isinstance(numbers, tuple) or len(numbers) > most or not are_some(palette, numbers):
        return []
    return list(numbers)


def numbers_of_halves(palette, most, one, other):
    """The rising list of the numbers of both halves, empty where these are not as they must be."""
    first = numbers_of_node(palette, most, one)
    if first == []:
        return []
    second = numbers_of_node(palette, most, other)
    both = sorted(first + second)
    if second == [] or abs(len(first) - len(second)) > 1 or not are_rising(both):
        return []
    return both


def numbers_of_node(palette, most, thing):
    """The rising list of a node's numbers, empty where the thing is no node as it must be."""
    numbers = []
    if isinstance(thing, tuple) and len(thing) == 3 and thing[0] == "leaf":
        numbers = numbers_of_leaf(palette, most, thing[2])
    if isinstance(thing, tuple) and len(thing) == 4 and thing[0] == "node":
        numbers = numbers_of_halves(palette, most, thing[2], thing[3])
    if numbers == [] or not is_just_box(palette, thing[1], numbers):
        return []
    return numbers


def is_tree(palette, most, thing):
    """Whether a thing is a halved tree of all the palette's numbers, of leaves with at most so many."""
    return numbers_of_node(palette, most, thing) == list(range(len(palette)))


def is_passed(palette, thing):
    """Whether a thing is a tuple of a box and a rising tuple of one or more of the palette's numbers."""
    if not isinstance(thing, tuple) or len(thing) != 2:
        return False
    box, numbers = thing
    return is_box(box, len(palette[0])) and isinstance(numbers, tuple) and are_some(palette, numbers)


def is_paper(palette, thing):
    """Whether a thing is a pair (looked, passed) in which each of the palette's numbers is just once."""
    if not isinstance(thing, tuple) or len(thing) != 2:
        return False
    looked, passed = thing
    if not isinstance(looked, list) or not isinstance(passed, list) or not are_some(palette, looked):
        return False
    if not all([is_passed(palette, each) for each in passed]):
        return False
    both = looked + [number for box, numbers in passed for number in numbers]
    return sorted(both) == list(range(len(palette)))


def is_behind(palette, colour, told, box, numbers):
    """Whether the box holds the colours of its numbers, and so shows all of them to be behind the told rank."""
    if not all([holds(box, palette[number]) for number in numbers]):
        return False
    return told < (near_box(colour, box), numbers[0])


def shows_nearest(palette, colour, number, paper):
    """Whether the paper shows that number to be the nearest."""
    if not is_paper(palette, paper) or not is_number(number):
        return False
    looked, passed = paper
    if number not in looked:
        return False
    told = rank_of(palette, colour, number)
    if not all([told <= rank_of(palette, colour, other) for other in looked]):
        return False
    return all([is_behind(palette, colour, told, box, numbers) for box, numbers in passed])
