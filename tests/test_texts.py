import re
import unittest

from fewcolours.best import best_groups
from fewcolours.book import Book
from fewcolours.changes import least_change
from fewcolours.cutting import palette_by_cuts
from fewcolours.errors import BadRow
from fewcolours.handing import handed_on
from fewcolours.looking import nearest, nearest_few, within
from fewcolours.pictures import counts_in, lost_in, numbers_by, painted
from fewcolours.resting import palette_at_rest
from fewcolours.texts import run
from tests.samples import alike, check_refused, dice, some_colour, some_colours, some_picture

NAME = "[a-z]{1,8}"
NUMBER = "(?:0|[1-9][0-9]{0,8})"
COLOUR = f"{NUMBER}(?:/{NUMBER})*"
SHARE = f"(?:{NUMBER}|-[1-9][0-9]{{0,8}})/{NUMBER}/{NUMBER}"
FORMS = {word: re.compile(form) for word, form in {
    "palette": f"palette ({NAME})((?: {COLOUR})+)",
    "picture": rf"picture ({NAME})((?: {COLOUR})+(?: \|(?: {COLOUR})+)*)",
    "cut": f"cut ({NAME}) ({NAME}) ({NUMBER})",
    "rest": f"rest ({NAME}) ({NAME}) ({NAME})",
    "drop": f"drop ({NAME})",
    "nearest": f"nearest ({NAME}) ({COLOUR})",
    "few": f"few ({NAME}) ({NUMBER}) ({COLOUR})",
    "within": f"within ({NAME}) ({NUMBER}) ({COLOUR})",
    "paint": f"paint ({NAME}) ({NAME})",
    "lost": f"lost ({NAME}) ({NAME})",
    "hand": f"hand ({NAME}) ({NAME}) (same|turned)((?: {SHARE})*)",
    "best": f"best ({NAME}) ({NUMBER})",
    "change": f"change ({NAME}) ({NAME}) ({NUMBER})",
    "likest": f"likest ({NAME}) ({NUMBER})",
    "for": f"for ({NAME})",
}.items()}


class Bad(Exception):
    pass


def need(so):
    if not so:
        raise Bad


def spaced(things):
    return " ".join(map(str, things)) or "-"


def by_strokes(rows):
    return " | ".join(map(spaced, rows))


def slashed(numbers):
    return "/".join(map(str, numbers))


class Plain:
    """What run must tell, by forms of rows and by the parts of the program."""

    def __init__(self, wide):
        self.wide, self.palettes, self.pictures = wide, {}, {}

    def colour(self, text):
        colour = tuple(map(int, text.split("/")))
        need(len(colour) == self.wide and max(colour) <= 999)
        return colour

    def put(self, name, palette):
        need(name not in self.palettes and len(self.palettes) < 20)
        self.palettes[name] = palette

    def palette(self, name, most=40):
        need(name in self.palettes and len(self.palettes[name]) <= most)
        return self.palettes[name]

    def shown(self, name):
        need(name in self.pictures)
        return self.pictures[name]

    def rows(self, name, most):
        rows = counts_in(self.shown(name))
        need(len(rows) <= most)
        return rows

    def number(self, text, low, high):
        need(low <= int(text) <= high)
        return int(text)

    def make_palette(self, name, colours):
        palette = [self.colour(word) for word in colours.split()]
        need(len(palette) <= 40)
        self.put(name, palette)

    def make_picture(self, name, colours):
        picture = [[self.colour(word) for word in row.split()] for row in colours.split("|")]
        need(len(picture) <= 16 and len(picture[0]) <= 16 and len({len(row) for row in picture}) == 1)
        need(name not in self.pictures)
        self.pictures[name] = picture

    def make_cut(self, name, picture, many):
        self.put(name, palette_by_cuts(self.rows(picture, 60), self.number(many, 1, 40)))

    def make_rest(self, name, picture, palette):
        self.put(name, palette_at_rest(self.rows(picture, 60), self.palette(palette, 12)))

    def make_drop(self, name):
        self.palette(name)
        del self.palettes[name]

    def ask_nearest(self, name, colour):
        return str(nearest(self.palette(name), self.colour(colour)))

    def ask_few(self, name, many, colour):
        return spaced(nearest_few(self.palette(name), self.colour(colour), self.number(many, 0, 40)))

    def ask_within(self, name, square, colour):
        return spaced(within(self.palette(name), self.colour(colour), int(square)))

    def ask_paint(self, picture, name):
        return by_strokes(numbers_by(self.shown(picture), self.palette(name)))

    def ask_lost(self, picture, name):
        palette, shown = self.palette(name), self.shown(picture)
        return str(lost_in(shown, painted(numbers_by(shown, palette), palette)))

    def ask_hand(self, picture, name, way, words):
        shares = [tuple(map(int, word.split("/"))) for word in words.split()]
        for across, down, parts in shares:
            need(across in range(-2, 3) and down in range(3) and parts in range(1, 65) and (down or across > 0))
        need(len({share[:2] for share in shares}) == len(shares))
        numbers, lost = handed_on(self.shown(picture), self.palette(name), shares, way)
        return f"{by_strokes(numbers)} : {slashed(lost)}"

    def ask_best(self, picture, many):
        top, bottom = best_groups(self.rows(picture, 9), self.number(many, 1, 4))[0]
        return str(top) + f"/{bottom}" * (bottom != 1)

    def ask_change(self, one, other, price):
        price = self.number(price, 0, 10 ** 7)
        cost, pairs = least_change(self.palette(one, 12), self.palette(other, 12), price)
        return f"{cost} : {spaced(f'{i}>{j}' for i, j in pairs)}"

    def ask_likest(self, name, price):
        price = self.number(price, 0, 10 ** 7)
        one = self.palette(name)
        for each in self.palettes:
            self.palette(each, 12)
        costs = sorted((least_change(one, self.palettes[other], price)[0], other)
                       for other in self.palettes if other != name)
        return spaced(f"{cost}:{other}" for cost, other in costs)

    def ask_for(self, picture):
        shown, book = self.shown(picture), Book()
        for name, palette in self.palettes.items():
            book.put(name, palette)
        return " ".join(map(str, book.best_for(shown))) if self.palettes else "-"


def plain_run(text):
    """The answers, or the number of the row that is refused."""
    rows = text.split("\n")
    plain, answers = None, []
    for at, row in enumerate(rows):
        if row == "":
            continue
        try:
            if plain is None:
                told = re.fullmatch("wide ([1-5])", row)
                need(told)
                plain = Plain(int(told.group(1)))
                continue
            word = row.split(" ")[0]
            need(word in FORMS)
            told = FORMS[word].fullmatch(row)
            need(told)
            if hasattr(plain, "make_" + word):
                getattr(plain, "make_" + word)(*told.groups())
            else:
                answers.append(getattr(plain, "ask_" + word)(*told.groups()))
        except Bad:
            return at
    return answers if plain else len(rows)


def some_name(rng):
    return rng.choice(("a", "b", "c", "ab", "abcdefgh", "zz", "palette", "for"))


def colours_text(colours):
    return " ".join(map(slashed, colours))


def picture_text(picture):
    return " | ".join(map(colours_text, picture))


def some_share(rng):
    across, down = rng.choice([(a, d) for a in range(-2, 3) for d in range(3) if d or a > 0])
    return f"{across}/{down}/{rng.choice((1, 2, 3, 7, 64))}"


def some_rows(rng, wide, high, names, pictures):
    """One row, mostly a right one, where there are palettes and pictures by these names."""
    colour = slashed(some_colour(rng, wide, 0, high))
    palette, other, shown = rng.choice(names), rng.choice(names), rng.choice(pictures)
    price = rng.choice((0, 1, 5, 100, 10 ** 7))
    return rng.choice((
        f"palette {some_name(rng)} {colours_text(some_colours(rng, wide, rng.randint(1, 5), 0, high))}",
        f"picture {some_name(rng)} {picture_text(some_picture(rng, wide, high, rng.choice(((1, 1), (2, 3)))))}",
        f"cut {some_name(rng)} {shown} {rng.randint(1, 5)}",
        f"rest {some_name(rng)} {shown} {palette}",
        f"drop {palette}",
        f"nearest {palette} {colour}",
        f"few {palette} {rng.choice((0, 1, 2, 40))} {colour}",
        f"within {palette} {rng.choice((0, 1, 50, 999999999))} {colour}",
        f"paint {shown} {palette}",
        f"lost {shown} {palette}",
        " ".join([f"hand {shown} {palette} {rng.choice(('same', 'turned'))}",
                  *[some_share(rng) for share in range(rng.randint(0, 4))]]),
        f"best {shown} {rng.randint(1, 4)}",
        f"change {palette} {other} {price}",
        f"likest {palette} {price}",
        f"for {shown}",
    ))


def some_text(rng, many):
    """The rows of a text of so many rows, in which nearly all are right."""
    wide, high = rng.choice((1, 1, 2, 3, 5)), rng.choice((2, 20, 999))
    rows = [f"wide {wide}", f"palette a {colours_text(some_colours(rng, wide, 3, 0, high))}",
            f"picture a {picture_text(some_picture(rng, wide, high, (2, 2)))}"]
    while len(rows) < many:
        plain = plain_names(rows)
        row = some_rows(rng, wide, high, plain[0], plain[1])
        if rng.random() < 0.05 or isinstance(plain_run("\n".join(rows + [row])), list):
            rows.append(row)
    return rows


def plain_names(rows):
    """The names of palettes and of pictures that rows make, dropped ones left out."""
    names, pictures = ["a"], ["a"]
    for row in rows:
        words = row.split(" ")
        if words[0] in ("palette", "cut", "rest"):
            names.append(words[1])
        elif words[0] == "picture":
            pictures.append(words[1])
        elif words[0] == "drop" and words[1] in names and len(names) > 1:
            names.remove(words[1])
    return names, pictures


SIGNS = " \t\n/|-+0123456789abzA~:>."


def one_sign_otherwise(rng, text):
    """The text with one sign, word or row otherwise."""
    at = rng.randrange(len(text) + 1)
    rows = text.split("\n")
    row, other = rng.randrange(len(rows)), rng.randrange(len(rows))
    words = rows[row].split(" ")
    word = rng.randrange(len(words))
    turned = list(rows)
    turned[row], turned[other] = rows[other], rows[row]
    return rng.choice((
        text[:at] + text[at + 1:],
        text[:at] + rng.choice(SIGNS) + text[at:],
        text[:at] + rng.choice(SIGNS) + text[at + 1:],
        "\n".join(turned),
        "\n".join(rows[:row] + rows[row + 1:]),
        "\n".join(rows[:row] + [rows[other]] + rows[row:]),
        "\n".join(rows[:row] + [" ".join(words[:word] + words[word + 1:])] + rows[row + 1:]),
        "\n".join(rows[:row] + [" ".join(words[:word] + [words[word]] + words[word:])] + rows[row + 1:]),
        "\n".join(rows[:row] + [" ".join(words[:word] + [words[0]] + words[word + 1:])] + rows[row + 1:]),
    ))


def strewn(rng, rows):
    """The rows with empty ones strewn in; tells the text and where each row has gone."""
    out, places = [], []
    for row in rows:
        out.extend([""] * rng.choice((0, 0, 1, 3)))
        places.append(len(out))
        out.append(row)
    return "\n".join(out + [""] * rng.randint(0, 2)), places


# Rows by which all of the asks can be made, of width 2: palettes one, two, big (13 colours), the pictures one (4 unlike
# colours), nine, ten (unlike colours), huge (16 by 16, 61 unlike colours) and sixty.
def grid(many, columns):
    """A picture of so many unlike colours."""
    spots = [(at % many // 30 * 3, at % many % 30) for at in range(-(-many // columns) * columns)]
    return picture_text([spots[at:at + columns] for at in range(0, len(spots), columns)])


BASE = ["wide 2", "palette one 0/0 9/9 5/5", "palette two 1/1 9/8", "picture one 1/0 8/8 | 5/4 1/0",
        f"picture nine {grid(9, 3)}", f"picture ten {grid(10, 5)}", f"picture sixty {grid(60, 15)}",
        f"picture huge {grid(61, 16)}", "picture gone 7/7"]
BIG = "palette big " + colours_text([(at, at) for at in range(13)])
TWELVE = "palette twelve " + colours_text([(at, at) for at in range(12)])
FORTY = colours_text([(at, 2 * at) for at in range(40)])


class Answers(unittest.TestCase):
    def check(self, rows, answers):
        self.assertTrue(alike(run("\n".join(rows)), answers), run("\n".join(rows)))

    def check_plain(self, rows):
        told = plain_run("\n".join(rows))
        self.assertIsInstance(told, list)
        self.check(rows, told)
        return told

    def test_told_by_hand(self):
        self.check(BASE, [])
        self.check(BASE + ["nearest one 6/7", "few one 2 6/7", "few one 0 6/7", "few one 40 6/7"],
                   ["2", "2 1", "-", "2 1 0"])
        self.check(BASE + ["within one 5 6/7", "within one 13 6/7", "within one 4 6/7", "within one 999999999 6/7"],
                   ["2", "1 2", "-", "0 1 2"])
        self.check(BASE + ["paint one one", "lost one one", "paint gone two"], ["0 1 | 2 0", "5", "1"])
        self.check(BASE + ["hand one one turned 1/0/7 -1/1/3 0/1/5", "hand one one same", "hand gone one same"],
                   ["0 1 | 2 0 : 1/-2", "0 1 | 2 0 : 1/-2", "1 : -2/-2"])
        self.check(BASE + ["best one 4", "best one 3", "best one 2", "best one 1", "best gone 1"],
                   ["0", "0", "25/2", "315/4", "0"])
        self.check(BASE + ["change one two 40", "change one one 7", "change one two 0", "change two one 40"],
                   ["43 : 0>0 1>1", "0 : 0>0 1>1 2>2", "0 : -", "43 : 0>0 1>1"])
        self.check(BASE + ["likest one 40", "likest two 40", "drop two", "likest one 40"], ["43:two", "43:one", "-"])
        self.check(BASE + ["for one", "drop one", "for one", "drop two", "for one"], ["one 5", "two 28", "-"])

    def test_what_is_made(self):
        made = BASE + ["cut three one 2", "rest four one two", "rest five one three"]
        self.check(made + ["lost one three", "few three 9 0/0", "few four 9 0/0", "nearest four 999/999"],
                   ["13", "0 1", "0 1", "1"])
        self.check_plain(made + ["paint sixty four", "change three four 50", "likest five 99", "for sixty"])
        self.check_plain(BASE + ["cut c sixty 40", "few c 40 0/0", "cut d sixty 1", "cut e nine 40", "few e 40 9/9"])

    def test_one_name_for_a_palette_and_a_picture(self):
        rows = ["wide 1", "palette same 1 9", "picture same 2 3 | 9 9", "paint same same", "lost same same",
                "hand same same same 1/0/1", "drop same", "palette same 2", "lost same same"]
        self.check_plain(rows)
        self.check(rows[:5], ["0 0 | 1 1", "5"])

    def test_dropped_names_are_made_anew(self):
        rows = ["wide 1", "palette a 1", "picture p 4 6", "nearest a 5", "drop a", "palette a 9 5", "nearest a 5",
                "drop a", "cut a p 2", "few a 9 0", "drop a", "palette b 0 9", "rest a p b", "few a 9 9"]
        self.check(rows, ["0", "1", "0 1", "1 0"])

    def test_equal_ones(self):
        rows = ["wide 1", "palette b 5 5 9", "palette a 5", "palette ab 5 9", "picture p 7 5", "nearest b 7",
                "few b 3 7", "within b 4 7", "paint p b", "for p", "likest a 3", "change b a 3", "change b ab 8"]
        self.check(rows, ["0", "0 1 2", "0 1 2", "0 0", "a 4", "3:ab 6:b", "6 : 0>0", "8 : 0>0 2>1"])

    def test_texts_that_ask_nothing(self):
        for text in ("wide 1", "wide 5\n", "\n\nwide 3\n\n\n", "wide 1\npalette a 1\npicture a 1\ndrop a"):
            self.assertEqual(run(text), [])

    def test_some_texts(self):
        rng = dice(441)
        for turn in range(60):
            rows = some_text(rng, rng.randint(4, 25))
            text, places = strewn(rng, rows)
            told = plain_run("\n".join(rows))
            if isinstance(told, list):
                self.assertTrue(alike(run(text), told))
                self.assertTrue(alike(run("\n".join(rows)), told))
            else:
                self.assertEqual(check_refused(self, BadRow, run, text).row, places[told])

    def test_each_way_of_asking(self):
        rng = dice(442)
        for turn in range(40):
            wide, high = rng.randint(1, 5), rng.choice((1, 9, 999))
            palette, other = some_colours(rng, wide, 7, 0, high), some_colours(rng, wide, 4, 0, high)
            picture = some_picture(rng, wide, high, rng.choice(((1, 1), (2, 2), (1, 8), (3, 3))))
            rows = [f"wide {wide}", f"palette p {colours_text(palette)}", f"palette q {colours_text(other)}",
                    f"picture s {picture_text(picture)}"]
            shares = rng.sample([(a, d, rng.randint(1, 64)) for a in range(-2, 3) for d in range(3) if d or a > 0], 4)
            for row in (f"nearest p {slashed(picture[0][0])}", f"few p 3 {slashed(picture[0][0])}",
                        f"within p {high} {slashed(picture[0][0])}", "paint s p", "lost s p", "for s",
                        *[f"best s {many}" for many in (1, 2, 3, 4)],
                        *[f"hand s q {way}" + "".join(f" {slashed(share)}" for share in shares[:many])
                          for way in ("same", "turned") for many in range(5)],
                        *[f"{ask} {price}" for ask in ("change p q", "change q p", "likest p", "likest q")
                          for price in (0, 1, high * high // 2, 10 ** 7)]):
                self.assertEqual(len(self.check_plain(rows + [row])), 1)

    def test_of_full_size(self):
        rng = dice(443)
        picture = picture_text(some_picture(rng, 1, 999, (16, 16)))
        rows = ["wide 1", f"palette p {colours_text(some_colours(rng, 1, 40))}", f"picture s {picture}", "paint s p",
                "lost s p", "hand s p turned 1/0/7 -1/1/3 0/1/5 1/1/1", "for s", "few p 40 500"]
        self.assertEqual(len(self.check_plain(rows)), 5)
        rows = ["wide 2"] + [f"palette {name} {slashed(some_colour(rng, 2))}" for name in "abcdefghijklmnopqrst"]
        self.assertEqual(len(self.check_plain(rows + ["likest a 99", "likest t 10000000"])), 2)

    def test_the_same_again(self):
        texts = ["\n".join(BASE + ["likest one 40", "for one"]), "wide 1\npalette one 1\nfew one 0 1", "wide 2"]
        first = [run(text) for text in texts]
        for told in first:
            told.append("mine")
        again = [run(text) for text in reversed(texts)]
        self.assertEqual(again[::-1], [["43:two", "one 5"], ["-"], []])
        self.assertEqual([told[:-1] for told in first], again[::-1])


class Refused(unittest.TestCase):
    def check_bad(self, text, row):
        told = check_refused(self, BadRow, run, text).row
        self.assertTrue(alike(told, row), (text, told, row))

    def check_row(self, row, *ahead):
        """The row is refused behind BASE and these, which are not; empty rows are counted, later rows don't matter."""
        rows = BASE + list(ahead)
        self.assertIsInstance(run("\n".join(rows)), list)
        self.check_bad("\n".join(rows + [row]), len(rows))
        self.check_bad("\n".join(["", *rows, "", "", row, "for gone"]), len(rows) + 3)
        self.check_bad("\n".join([*rows, row, "nonsense", ""]), len(rows))
        self.assertEqual(plain_run("\n".join(rows + [row])), len(rows))

    def check_good(self, row, *ahead):
        rows = BASE + list(ahead) + [row]
        told = plain_run("\n".join(rows))
        self.assertIsInstance(told, list)
        self.assertEqual(run("\n".join(rows)), told)

    def test_no_rows(self):
        for feeds in range(5):
            self.check_bad("\n" * feeds, feeds + 1)

    def test_first_rows(self):
        for row in ("wide 0", "wide 6", "wide", "wide ", "wide 1 ", " wide 1", "wide  1", "wide 01", "wide +1", "wide -1",
                    "wide 1 2", "Wide 1", "wide a", "wide\t1", "width 1", "palette a 1", "picture a 1", "for a", " ",
                    "\t", "wide 10", "wide 1000000000", "wide 1/2", "1", "|", "wide 1.", "drop a"):
            self.check_bad(row, 0)
            self.check_bad(f"\n\n{row}\nwide 1", 2)
            self.check_bad(f"\n{row}\n", 1)
        for wide in (1, 2, 3, 4, 5):
            self.assertEqual(run(f"\nwide {wide}"), [])
        self.check_row("wide 2")
        self.check_row("wide 3")

    def test_the_first_bad_row_is_told(self):
        self.check_bad("\n".join(BASE + ["nearest one 1/1", "nearest three 1/1", "nearest one 1"]), len(BASE) + 1)
        self.check_bad("wide 1\n\nfor a\nfor b", 2)

    def test_words_too_few_or_too_many(self):
        rows = ["palette new 1/1", "picture new 1/1", "cut new one 2", "rest new one two", "drop one",
                "nearest one 1/1", "few one 2 1/1", "within one 2 1/1", "paint one one", "lost one one",
                "hand one one same", "best one 2", "change one two 3", "likest one 3", "for one"]
        for row in rows:
            self.check_good(row)
            words = row.split(" ")
            for many in range(1, len(words)):
                self.check_row(" ".join(words[:many]))
            self.check_row(row + " x")
            for more in (" ", " -", " |", "\t", "  ", " 1", " 1/1", " one"):
                if not (more == " 1/1" and words[0] in ("palette", "picture")):
                    self.check_row(row + more)
            for word in range(len(words)):
                self.check_row(" ".join(words[:word] + [""] + words[word:]))
                self.check_row(" ".join(words[:word] + [words[word] + "\t"] + words[word + 1:]))
                self.check_row(" ".join(words[:word] + ["\t" + words[word]] + words[word + 1:]))
            self.check_row(row.replace(" ", "\t", 1))
            self.check_row(row.replace(" ", "\t"))
            self.check_row(row[0].upper() + row[1:])

    def test_unknown_words(self):
        for row in ("x", "near one 1/1", "nearests one 1/1", "palettes a 1/1", "-", "one", "|", " ", "\t", "# a",
                    "put a 1/1", "take one", "undo", "found one 1/1", "nearest_few one 1 1/1", "at one 1", "~"):
            self.check_row(row)

    def test_numbers(self):
        for bad in ("01", "00", "+1", "-1", "-0", "1000000000", "1e3", "1.0", "0x1", "1_0", "", "a", "one", "1/1"):
            self.check_row(f"within one {bad} 1/1")
            self.check_row(f"few one {bad} 1/1")
            self.check_row(f"cut new one {bad}")
            self.check_row(f"best one {bad}")
            self.check_row(f"change one two {bad}")
            self.check_row(f"likest one {bad}")
        for good in ("0", "1", "9", "10", "999999999"):
            self.check_good(f"within one {good} 1/1")

    def test_bounds_of_numbers(self):
        for row, low, high in (("few one {} 1/1", 0, 40), ("cut new one {}", 1, 40), ("best one {}", 1, 4),
                               ("change one two {}", 0, 10 ** 7), ("likest one {}", 0, 10 ** 7)):
            self.check_good(row.format(low))
            self.check_good(row.format(high))
            if low:
                self.check_row(row.format(low - 1))
            self.check_row(row.format(high + 1))
            self.check_row(row.format(999999999))

    def test_colours(self):
        for bad in ("1", "1/1/1", "1/1/", "/1/1", "1//1", "/", "1/", "/1", "1000/1", "1/1000", "01/1", "1/01", "1/00",
                    "-1/1", "1/-1", "+1/1", "1/a", "a/1", "1,1", "1|1", "1/1|", "(1,1)", "1/1/1/1", "-0/0", "1\\1",
                    "1/999999999", "1/ 1"):
            self.check_row(f"nearest one {bad}")
            self.check_row(f"few one 1 {bad}")
            self.check_row(f"within one 1 {bad}")
            self.check_row(f"palette new {bad}")
            self.check_row(f"palette new 1/1 {bad} 1/1")
            self.check_row(f"picture new 1/1 {bad}")
            self.check_row(f"picture new {bad} | 1/1")
        for good in ("0/0", "999/999", "0/10", "100/0"):
            self.check_good(f"nearest one {good}")
            self.check_good(f"palette new {good} {good}")
            self.check_good(f"picture new {good} | {good}")
        self.check_bad("wide 1\npalette a 1/1", 1)
        self.check_bad("wide 3\npalette a 1/1", 1)
        self.check_bad("wide 1\npalette a 1\nnearest a 1/1", 2)

    def test_pictures(self):
        for bad in ("|", "| 1/1", "1/1 |", "1/1 | | 1/1", "1/1 || 1/1", "1/1 | 1/1 |", "1/1 | 1/1 1/1", "1/1 1/1 | 1/1",
                    "1/1 2/2 | 1/1 2/2 | 1/1", "1/1 2/2 | 1/1 2/2 2/2", "1/1 |1/1", "1/1| 1/1", "1/1 : 1/1"):
            self.check_row(f"picture new {bad}")
        for rows, columns in ((1, 1), (1, 16), (16, 1), (16, 16), (3, 5)):
            self.check_good("picture new " + picture_text([[(1, 1)] * columns] * rows))
        for rows, columns in ((1, 17), (17, 1), (17, 17), (16, 17), (17, 16), (2, 17), (17, 2)):
            self.check_row("picture new " + picture_text([[(1, 1)] * columns] * rows))

    def test_names(self):
        for bad in ("", "A", "aB", "Abc", "abcdefghi", "a1", "1", "-", "|", "a_b", "a/b", "1/1", "a-", "a.b", "~"):
            self.check_row(f"palette {bad} 1/1")
            self.check_row(f"picture {bad} 1/1")
            self.check_row(f"cut {bad} one 2")
            self.check_row(f"rest {bad} one two")
            self.check_row(f"drop {bad}")
        for good in ("a", "z", "abcdefgh", "zzzzzzzz", "palette", "wide", "same", "turned"):
            self.check_good(f"palette {good} 1/1")
            self.check_good(f"picture {good} 1/1")
            self.check_good(f"cut {good} one 2")
            self.check_good(f"rest {good} one two")

    def test_names_that_are_there(self):
        for row in ("palette one 1/1", "palette two 1/1", "picture one 1/1", "picture gone 1/1", "cut one one 2",
                    "cut two one 2", "rest one one two", "rest two one two"):
            self.check_row(row)
        self.check_row("palette new 2/2", "palette new 1/1")
        self.check_row("cut new one 2", "palette new 1/1")
        self.check_row("palette new 2/2", "cut new one 2")
        self.check_row("rest new one two", "rest new one one")
        self.check_row("picture new 2/2", "picture new 1/1")
        self.check_good("palette gone 1/1")
        self.check_good("picture two 1/1")
        self.check_good("palette one 1/1", "drop one")

    def test_names_that_are_not_there(self):
        for row in ("drop {}", "nearest {} 1/1", "few {} 1 1/1", "within {} 1 1/1", "paint one {}", "lost one {}",
                    "hand one {} same", "hand one {} turned 1/0/1", "change {} one 1", "change one {} 1", "likest {} 1",
                    "rest new one {}"):
            # There are pictures by some of these names, and a palette was there by another one.
            for name in ("three", "gone", "nine", "on", "onee"):
                self.check_row(row.format(name))
            self.check_row(row.format("two"), "drop two")
            self.check_good(row.format("two"))
            self.check_good(row.format("two"), "drop two", "palette two 7/7")
        for row in ("paint {} one", "lost {} one", "hand {} one same", "best {} 2", "for {}", "cut new {} 2",
                    "rest new {} one"):
            for name in ("three", "two", "on", "onee"):
                self.check_row(row.format(name))
            self.check_good(row.format("gone"))
            self.check_row(row.format("new"), "palette new 1/1")

    def test_pictures_are_not_dropped(self):
        self.check_row("drop gone")
        self.check_good("for one", "drop one")
        self.check_row("drop one", "drop one")

    def test_shares(self):
        for bad in ("0/0/1", "-1/0/1", "-2/0/1", "3/0/1", "3/1/1", "-3/1/1", "1/3/1", "1/-1/1", "1/0/0", "1/0/65", "-0/1/1",
                    "-0/0/1", "+1/0/1", "1/+1/1", "1/0/-1", "01/0/1", "-01/1/1", "1/00/1", "1/01/1", "1/0/01", "1/0",
                    "1/0/1/1", "1", "1//1", "/0/1", "1/0/", "--1/1/1", "-/1/1", "a/0/1", "1/0/a", "- 1/1/1", "1/1/1000000000",
                    "1/0/1|", "-1/-1/1", "0/-0/1", "0/1/-0"):
            self.check_row(f"hand one one same {bad}")
            self.check_row(f"hand one one turned 2/2/2 {bad}")
            self.check_row(f"hand one one turned {bad} 2/2/2")
        for two in ("1/0/1 1/0/1", "1/0/1 1/0/2", "0/1/3 1/0/1 0/1/4", "-2/2/1 1/1/1 1/2/1 -2/2/64"):
            self.check_row(f"hand one one same {two}")
        for good in ("1/0/1", "2/0/64", "-2/1/1", "-2/2/1", "2/2/64", "0/1/1", "0/2/1", "1/0/1 2/0/1 0/1/1 0/2/1",
                     "1/1/5 -1/1/5 1/2/5 1/0/5"):
            self.check_good(f"hand one one same {good}")
            self.check_good(f"hand one one turned {good}")
        every = [f"{a}/{d}/{7 + a + d}" for d in range(3) for a in range(-2, 3) if d or a > 0]
        self.check_good("hand one one turned " + " ".join(every))
        self.check_row("hand one one turned " + " ".join(every) + " 0/0/1")

    def test_ways(self):
        for bad in ("Same", "samE", "turn", "", "1/0/1", "way", "same/turned", "turned|"):
            self.check_row(f"hand one one {bad}")
            self.check_row(f"hand one one {bad} 1/0/1")

    def test_forty_colours(self):
        self.check_good(f"palette new {FORTY}")
        self.check_row(f"palette new {FORTY} 1/1")
        self.check_row(f"palette new {FORTY} {FORTY}")

    def test_twenty_palettes(self):
        more = [f"palette {name} 1/1" for name in "abcdefghijklmnopqr"]
        for row in ("palette new 1/1", "cut new one 2", "rest new one two"):
            self.check_good(row, *more[:-1])
            self.check_row(row, *more)
            self.check_good(row, *more, "drop c")
            self.check_row(row, *more, "drop c", "palette z 1/1")
        self.check_good("picture new 1/1", *more)
        for row in ("likest one 5", "for one", "nearest r 1/1"):
            self.check_good(row, *more)

    def test_unlike_colours(self):
        self.check_good("cut new sixty 3")
        self.check_row("cut new huge 3")
        self.check_good("rest new sixty one")
        self.check_row("rest new huge one")
        self.check_good("best nine 3")
        self.check_row("best ten 3")
        for ask in ("paint huge one", "lost huge one", "hand huge one same 1/0/1", "for huge"):
            self.check_good(ask)
        # Of a picture of many spots only the unlike colours count.
        self.check_good("best new 2", "picture new " + picture_text([[(1, 1), (2, 2)] * 8] * 16))
        self.check_good("cut new new 2", "picture new " + picture_text([[(1, 1), (2, 2)] * 8] * 16))

    def test_twelve_colours(self):
        for row in ("rest new one {}", "change {} one 5", "change one {} 5", "likest {} 5"):
            self.check_good(row.format("twelve"), TWELVE)
            self.check_row(row.format("big"), BIG)
        # likest looks at all palettes that are there.
        self.check_row("likest one 5", BIG)
        self.check_good("likest one 5", BIG, "drop big")
        self.check_good("change one two 5", BIG)
        self.check_good("likest one 5", "cut new sixty 12")
        self.check_row("likest one 5", "cut new sixty 13")
        self.check_row("rest other one new", "cut new sixty 13")
        self.check_good("nearest new 1/1", "cut new sixty 13")
        self.check_good("for one", BIG)

    def test_refused_ahead_of_answers(self):
        text = "\n".join(BASE + ["nearest one 1/1"] * 5 + ["drop one", "nearest one 1/1"])
        self.check_bad(text, len(BASE) + 6)
        self.assertEqual(run("\n".join(BASE + ["nearest one 1/1"])), ["0"])

    def test_one_sign_otherwise(self):
        rng = dice(444)
        told = {list: 0, int: 0}
        for turn in range(50):
            rows = some_text(rng, rng.randint(4, 10))
            text = strewn(rng, rows)[0]
            for change in range(30):
                changed = one_sign_otherwise(rng, text)
                plain = plain_run(changed)
                told[type(plain)] += 1
                if isinstance(plain, list):
                    self.assertTrue(alike(run(changed), plain), changed)
                else:
                    self.check_bad(changed, plain)
        self.assertGreater(min(told.values()), 200)


if __name__ == "__main__":
    unittest.main()
