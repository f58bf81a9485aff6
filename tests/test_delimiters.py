"""Delimiters and roots (points 44 to 50)."""

import random
import unittest

from mathboxes.boxes import Box, beside, moved
from mathboxes.delimiters import candidates, chosen, fence_least, grown, root, totals
from mathboxes.errors import InvalidArgument, InvalidBox
from tests.samples import (
    LIMIT, Case, fonts_with, glyph, no_amounts, no_delimiters, no_fonts, no_signed, no_sizes, no_styles, rule,
    wrong_boxes,
)


def plain(height, depth=0, later=None, width=10, slant=0):
    return (width, height, depth, slant, later, None)


def extending(top, middle, bottom, rep, width=10):
    return (width, 9999, 9999, 7, None, (top, middle, bottom, rep))


# Pieces of all kinds; their totals are 30, 40, 50 and 7.
PIECES = {"top": plain(20, 10), "mid": plain(15, 25), "bottom": plain(5, 45), "rep": plain(3, 4, width=6, slant=2)}
SMALL = {"p": plain(100, 20, "pp"), "pp": plain(200, 50, "ppp"), "ppp": plain(50, 0)}
BOTH = (0, "p", 0, "ext")


def made(glyphs, numbers=(), settings=()):
    return fonts_with(numbers, settings, {**PIECES, **dict(glyphs)})


class Candidates(Case):

    def test_none(self):
        self.assertEqual(candidates(made(SMALL), 2, None), [])

    def test_order(self):
        fonts = fonts_with(glyphs={
            (0, 0, "p"): plain(1, 0, "b"), (0, 0, "b"): plain(1), (0, 1, "p"): plain(1), (0, 2, "p"): plain(1, 0, "c"),
            (0, 2, "c"): plain(1, 0, "a"), (0, 2, "a"): plain(1), (1, 0, "p"): plain(1), (1, 2, "q"): plain(1),
            (1, 1, "q"): plain(1, 0, "r"), (1, 1, "r"): plain(1),
        })
        small = [(0, 2, "p"), (0, 2, "c"), (0, 2, "a"), (0, 1, "p"), (0, 0, "p"), (0, 0, "b")]
        large = [(1, 2, "q"), (1, 1, "q"), (1, 1, "r")]
        delimiter = (0, "p", 1, "q")
        self.assertEqual(candidates(fonts, 2, delimiter), small + large)
        self.assertEqual(candidates(fonts, 1, delimiter), small[3:] + large[1:])
        self.assertEqual(candidates(fonts, 0, delimiter), small[4:])
        self.assertEqual(candidates(delimiter=(1, "q", 0, "p"), size=2, fonts=fonts), large + small)
        self.assertEqual(candidates(fonts, 0, (0, "p", 0, "p")), small[4:] * 2)

    def test_what_lacks(self):
        fonts = made(SMALL)
        for lacking in (2, 3):
            self.assertEqual(candidates(fonts, 2, (lacking, "p", lacking, "p")), [])
            self.assertEqual(candidates(fonts, 0, (lacking, "p", 1, "ppp")), [(1, 0, "ppp")])
        self.assertEqual(candidates(fonts, 0, (0, "zz", 0, "pp")), [(0, 0, "pp"), (0, 0, "ppp")])
        self.assertEqual(candidates(fonts, 1, (0, "zz", 0, "yy")), [])

    def test_what_extends_stands_among_them(self):
        fonts = made({"p": plain(1, 0, "ext"), "ext": extending(None, None, None, "rep")})
        self.assertEqual(candidates(fonts, 0, (0, "p", 0, "rep")), [(0, 0, "p"), (0, 0, "ext"), (0, 0, "rep")])


class Chosen(Case):

    def choose(self, glyphs, rows, delimiter=BOTH, size=0):
        fonts = made(glyphs)
        for least, expected in rows:
            self.assertEqual(chosen(fonts, size, delimiter, least), expected, least)

    def test_none(self):
        self.choose(SMALL, [(0, None), (LIMIT, None)], None)
        self.choose(SMALL, [(0, None), (LIMIT, None)], (3, "p", 2, "q"))
        self.choose(SMALL, [(0, None), (LIMIT, None)], (0, "q", 1, "q"))

    def test_great_enough(self):
        self.choose(SMALL, [
            (0, (0, 0, "p", None)), (120, (0, 0, "p", None)), (121, (0, 0, "pp", None)), (250, (0, 0, "pp", None)),
            (251, (0, 0, "pp", None)), (LIMIT, (0, 0, "pp", None)),
        ])

    def test_first_of_the_greatest(self):
        glyphs = {"p": plain(5, 5, "pp"), "pp": plain(2, 8, "ppp"), "ppp": plain(9)}
        self.choose(glyphs, [(10, (0, 0, "p", None)), (11, (0, 0, "p", None))], (0, "p", 0, "p"))
        self.choose(glyphs, [(10, (1, 0, "pp", None)), (11, (1, 0, "pp", None))], (0, "ppp", 1, "pp"))
        self.choose({"p": plain(0)}, [(0, (0, 2, "p", None)), (1, (0, 2, "p", None))], size=2)

    def test_sizes(self):
        fonts = fonts_with(glyphs={(0, 0, "p"): plain(300), (0, 1, "p"): plain(200), (0, 2, "p"): plain(100)})
        for size, rows in ((2, ((100, 2), (101, 1), (201, 0), (301, 0))), (1, ((0, 1), (201, 0))), (0, ((0, 0),))):
            for least, there in rows:
                told = chosen(fonts, size, (0, "p", 0, "zz"), least)
                self.assertEqual(told, (0, there, "p", None))
        self.assertEqual(chosen(fonts, 2, (3, "p", 0, "p"), 150), (0, 1, "p", None))

    def test_what_extends_is_taken_even_if_it_is_too_small(self):
        glyphs = {**SMALL, "ext": extending(None, None, None, "rep")}
        self.choose(glyphs, [(250, (0, 0, "pp", None)), (251, (0, 0, "ext", 36)), (LIMIT, (0, 0, "ext", 60))])
        # Nothing behind it is looked at.
        self.choose(glyphs, [(0, (0, 0, "ext", 0)), (120, (0, 0, "ext", 18))], (0, "ext", 0, "p"))

    def test_repeats(self):
        glyphs = {"ext": extending("top", None, "bottom", "rep")}
        self.choose(glyphs, [
            (0, (0, 0, "ext", 0)), (80, (0, 0, "ext", 0)), (81, (0, 0, "ext", 1)), (87, (0, 0, "ext", 1)),
            (88, (0, 0, "ext", 2)), (80 + 59 * 7, (0, 0, "ext", 59)), (81 + 59 * 7, (0, 0, "ext", 60)),
            (80 + 60 * 7, (0, 0, "ext", 60)), (81 + 60 * 7, (0, 0, "ext", 60)), (LIMIT, (0, 0, "ext", 60)),
        ])

    def test_repeats_beside_a_middle(self):
        glyphs = {"ext": extending(None, "mid", None, "rep")}
        self.choose(glyphs, [
            (40, (0, 0, "ext", 0)), (41, (0, 0, "ext", 1)), (54, (0, 0, "ext", 1)), (55, (0, 0, "ext", 2)),
            (40 + 60 * 14, (0, 0, "ext", 60)), (41 + 60 * 14, (0, 0, "ext", 60)),
        ])

    def test_rep_without_total(self):
        for middle in (None, "mid"):
            glyphs = {"none": plain(0), "ext": extending("top", middle, None, "none")}
            self.choose(glyphs, [(0, (0, 0, "ext", 0)), (500, (0, 0, "ext", 0)), (LIMIT, (0, 0, "ext", 0))])

    def test_own_total_of_what_extends_does_not_count(self):
        # Neither does it where it is a piece of another one, or of itself.
        glyphs = {"rep": (1, 3, 4, 0, None, ("top", "top", "top", "top")), "ext": extending("rep", None, None, "rep")}
        self.choose(glyphs, [(7, (0, 0, "ext", 0)), (8, (0, 0, "ext", 1)), (15, (0, 0, "ext", 2))])
        glyphs = {"ext": (1, 3, 4, 0, None, ("ext", None, None, "ext"))}
        self.choose(glyphs, [(7, (0, 0, "ext", 0)), (8, (0, 0, "ext", 1)), (15, (0, 0, "ext", 2))])

    def test_great_numbers(self):
        glyphs = {"great": plain(LIMIT, LIMIT), "ext": extending("great", None, None, "rep")}
        self.choose(glyphs, [(LIMIT, (0, 0, "ext", 0))])
        self.choose({"one": plain(1), "ext": extending(None, None, None, "one")}, [(60, (0, 0, "ext", 60)), (LIMIT, (0, 0, "ext", 60))])


class Grown(Case):

    def test_without_candidates(self):
        fonts = made({}, {"axis": 70}, {"empty": 33})
        for delimiter in (None, (3, "p", 3, "q"), (0, "yy", 1, "zz")):
            for size in range(3):
                self.assertEqual(grown(fonts, size, delimiter, LIMIT), Box(33, 0, 0))

    def test_plain_glyph(self):
        fonts = made({"p": plain(100, 21, width=30, slant=4)}, {("axis", 0): 5, ("axis", 1): 6, ("axis", 2): 7})
        for size, axis in ((0, 5), (1, 6), (2, 7)):
            down = 40 - axis
            told = grown(least=0, delimiter=BOTH, size=size, fonts=fonts)
            self.assertEqual(told, Box(34, 100 - down, 21 + down, [glyph(0, -down, "p", 0, size, ())]))

    def test_halves(self):
        for height, depth, half in ((5, 0, 3), (4, 0, 2), (0, 0, 0), (0, 1, 0), (0, 2, -1), (0, 5, -2), (0, 4, -2)):
            told = grown(made({"p": plain(height, depth)}), 0, BOTH, 0)
            self.assertEqual(told, Box(10, height - half, depth + half, [glyph(0, -half, "p", 0, 0, ())]))

    def test_axis_of_the_size_and_not_of_the_face(self):
        fonts = fonts_with({("axis", 2): 50, ("axis", 0): 900}, glyphs={(1, 0, "p"): plain(60)})
        self.assertEqual(grown(fonts, 2, (3, "p", 1, "p"), 0), Box(10, 80, -20, [glyph(0, 20, "p", 1, 0, ())]))

    def pieces(self, parts, least, expected, height):
        """The pieces from below, as tuples (name, total, depth), and the height of the uppermost one."""
        fonts = made({"ext": extending(*parts)})
        total = sum(entry[1] for entry in expected)
        down = -((total - 2 * height) // 2)
        lower = height - total - down
        marks = []
        for name, many, depth in expected:
            marks.append(glyph(0, lower + depth, name, 0, 1, ()))
            lower += many
        told = grown(fonts, 1, BOTH, least)
        self.assertEqual(told, Box(8, height - down, total - height + down, marks))

    def test_pieces(self):
        top, mid, bottom, rep = ("top", 30, 10), ("mid", 40, 25), ("bottom", 50, 45), ("rep", 7, 4)
        self.pieces(("top", "mid", "bottom", "rep"), 130, [bottom, rep, mid, rep, top], 20)
        self.pieces(("top", "mid", "bottom", "rep"), 120, [bottom, mid, top], 20)
        self.pieces(("top", None, "bottom", "rep"), 100, [bottom, rep, rep, rep, top], 20)
        self.pieces((None, "mid", "bottom", "rep"), 118, [bottom, rep, rep, mid, rep, rep], 3)
        self.pieces((None, "mid", "bottom", "rep"), 90, [bottom, mid], 15)
        self.pieces((None, None, "bottom", "rep"), 50, [bottom], 5)
        self.pieces((None, None, "bottom", "rep"), 51, [bottom, rep], 3)
        self.pieces(("top", None, None, "rep"), 31, [rep, top], 20)
        self.pieces((None, None, None, "rep"), 8, [rep, rep], 3)
        self.pieces(("top", "bottom", "top", "rep"), 124, [top, rep, bottom, rep, top], 20)

    def test_without_any_piece(self):
        fonts = made({"ext": extending(None, None, None, "rep")}, {"axis": 13})
        self.assertEqual(grown(fonts, 0, BOTH, 0), Box(8, 13, -13))
        self.assertEqual(grown(made({"ext": extending(None, None, None, "none"), "none": plain(0)}), 0, BOTH, 99), Box(10, 0, 0))

    def test_sixty_repeats_and_beyond(self):
        fonts = made({"ext": extending("top", "mid", None, "rep")})
        for least in (70 + 60 * 14, 71 + 60 * 14, LIMIT):
            told = grown(fonts, 0, BOTH, least)
            self.assertEqual(told.height + told.depth, 70 + 60 * 14)
            self.assertEqual([entry[2][4] for entry in told.marks], ["rep"] * 60 + ["mid"] + ["rep"] * 60 + ["top"])

    def test_great_numbers(self):
        fonts = made({"great": plain(LIMIT, LIMIT, width=LIMIT, slant=LIMIT), "ext": extending("great", None, None, "great")})
        told = grown(fonts, 0, BOTH, LIMIT)
        self.assertEqual(told, Box(2 * LIMIT, LIMIT, LIMIT, [glyph(0, 0, "great", 0, 0, ())]))

    def test_new(self):
        fonts = made(SMALL)
        grown(fonts, 0, BOTH, 0).marks.clear()
        candidates(fonts, 0, BOTH).clear()
        totals(fonts, 0, BOTH).clear()
        self.assertEqual(len(grown(fonts, 0, BOTH, 0).marks), 1)
        self.assertEqual(fonts, made(SMALL))


class Totals(Case):

    def test_none(self):
        for delimiter in (None, (3, "p", 3, "q"), (0, "yy", 1, "zz")):
            self.assertEqual(totals(made(SMALL), 2, delimiter), [(0, 0)])

    def test_plain(self):
        self.assertEqual(totals(made(SMALL), 0, BOTH), [(0, 120), (121, 250)])
        self.assertEqual(totals(made({"p": plain(0)}), 2, BOTH), [(0, 0)])
        glyphs = {"p": plain(0, 0, "pp"), "pp": plain(1, 0, "ppp"), "ppp": plain(1)}
        self.assertEqual(totals(delimiter=BOTH, size=0, fonts=made(glyphs)), [(0, 0), (1, 1)])
        self.assertEqual(totals(made({"p": plain(LIMIT, LIMIT)}), 0, BOTH), [(0, 2 * LIMIT)])

    def test_extending(self):
        told = totals(made({"ext": extending("top", "mid", "bottom", "rep")}), 0, BOTH)
        expected = [(0, 120)] + [(120 + 14 * at + 1, 134 + 14 * at) for at in range(60)]
        self.assertEqual(told, expected)
        told = totals(made({"ext": extending(None, None, None, "rep")}), 2, BOTH)
        self.assertEqual(told, [(0, 0)] + [(7 * at + 1, 7 * at + 7) for at in range(60)])

    def test_extending_behind_others(self):
        glyphs = {**SMALL, "ext": extending("top", None, "bottom", "rep")}
        expected = [(0, 120), (121, 250)] + [(251, 255)] + [(80 + 7 * at + 1, 87 + 7 * at) for at in range(25, 60)]
        self.assertEqual(totals(made(glyphs), 0, BOTH), expected)

    def test_extending_that_is_smaller(self):
        glyphs = {"p": plain(500), "ext": extending("top", None, None, "rep")}
        self.assertEqual(totals(made(glyphs), 0, BOTH), [(0, 500), (501, 450)])
        glyphs = {"p": plain(450), "ext": extending("top", None, None, "rep")}
        self.assertEqual(totals(made(glyphs), 0, BOTH), [(0, 450)])
        glyphs = {"p": plain(449), "ext": extending("top", None, None, "rep")}
        self.assertEqual(totals(made(glyphs), 0, BOTH), [(0, 449), (450, 450)])

    def test_rep_without_total(self):
        glyphs = {"none": plain(0), "p": plain(9), "ext": extending("top", None, None, "none")}
        self.assertEqual(totals(made(glyphs), 0, BOTH), [(0, 9), (10, 30)])
        self.assertEqual(totals(made(glyphs), 0, (0, "ext", 0, "p")), [(0, 30)])
        glyphs["p"] = plain(30)
        self.assertEqual(totals(made(glyphs), 0, BOTH), [(0, 30)])
        glyphs["p"] = plain(31)
        self.assertEqual(totals(made(glyphs), 0, BOTH), [(0, 31), (32, 30)])

    def test_as_grown(self):
        chance = random.Random(3)
        for _ in range(150):
            fonts, delimiter = self.fonts_at_random(chance)
            size = chance.randrange(3)
            told = totals(fonts, size, delimiter)
            expected = []
            for least in range(200):
                box = grown(fonts, size, delimiter, least)
                if not expected or expected[-1][1] != box.height + box.depth:
                    expected.append((least, box.height + box.depth))
            self.assertEqual([entry for entry in told if entry[0] < 200], expected)
            box = grown(fonts, size, delimiter, LIMIT)
            self.assertEqual(told[-1][1], box.height + box.depth)

    def fonts_at_random(self, chance):
        glyphs = {}
        for family in range(2):
            for size in range(3):
                for at, name in enumerate("abcd"):
                    if chance.random() < 0.3:
                        parts = [chance.choice([None, *"abcd"]) for _ in range(3)] + [chance.choice("abcd")]
                        there = (3, chance.randrange(4), chance.randrange(4), 0, None, tuple(parts))
                    else:
                        later = chance.choice([None, *"abcd"[at + 1:]])
                        there = (3, chance.randrange(30), chance.randrange(30), 0, later, None)
                    glyphs[(family, size, name)] = there
        delimiter = (chance.randrange(3), chance.choice("abcde"), chance.randrange(3), chance.choice("abcde"))
        return fonts_with({"axis": chance.randrange(9)}, glyphs=glyphs), delimiter

    def test_facts_and_slow_choice(self):
        chance = random.Random(4)
        for _ in range(400):
            fonts, delimiter = self.fonts_at_random(chance)
            size, least = chance.randrange(3), chance.randrange(150)
            told = chosen(fonts, size, delimiter, least)
            self.assertEqual(told, self.choose_slowly(fonts, size, delimiter, least))
            if told is not None:
                box = grown(fonts, size, delimiter, least)
                self.assertIn(2 * fonts.number_at("axis", size) - (box.height - box.depth), (0, 1))

    def choose_slowly(self, fonts, size, delimiter, least):
        rows = []
        for family, there, name in candidates(fonts, size, delimiter):
            glyph_there = fonts.glyph(family, there, name)
            if glyph_there[5]:
                repeats = [many for many in range(61) if self.total(fonts, family, there, glyph_there[5], many) >= least]
                many = repeats[0] if repeats else 60
                if sum(fonts.glyph(family, there, glyph_there[5][3])[1:3]) == 0:
                    many = 0
                return (family, there, name, many)
            rows.append((sum(glyph_there[1:3]), (family, there, name, None)))
            if rows[-1][0] >= least:
                return rows[-1][1]
        return max(rows, key=lambda row: row[0])[1] if rows else None

    def total(self, fonts, family, size, parts, many):
        top, middle, bottom, rep = parts
        names = [bottom] + [rep] * many + ([middle] + [rep] * many if middle else []) + [top]
        return sum(sum(fonts.glyph(family, size, name)[1:3]) for name in names if name)


class FenceLeast(Case):

    def test_reach(self):
        fonts = fonts_with({("axis", 0): 250, ("axis", 1): 100}, {"factor": 901, "short": 500})
        self.assertEqual(fence_least(fonts, 0, 1000, 0), max(1 * 901, 2 * 750 - 500))
        self.assertEqual(fence_least(fonts, 0, 0, 1000), max(2 * 901, 2 * 1250 - 500))
        self.assertEqual(fence_least(fonts, 1, 1000, 799), max(1 * 901, 2 * 900 - 500))
        self.assertEqual(fence_least(depth=801, height=1000, size=1, fonts=fonts), max(1 * 901, 2 * 901 - 500))

    def test_which_is_greater(self):
        fonts = fonts_with({}, {"factor": 1000, "short": 1})
        rows = ((499, 997), (500, 1000), (501, 1001), (999, 1997), (1000, 2000), (1001, 2001), (0, 0), (1, 1))
        for height, least in rows:
            self.assertEqual(fence_least(fonts, 2, height, -LIMIT), least)
        self.assertEqual(fence_least(fonts_with({}, {"factor": 1000}), 0, 999, 0), 1998)
        self.assertEqual(fence_least(fonts_with({}, {"factor": 3, "short": 9999}), 0, 1499, 0), 6)

    def test_below_nothing(self):
        fonts = fonts_with({"axis": 10}, {"factor": 3, "short": 5})
        self.assertEqual(fence_least(fonts, 0, -LIMIT, -100), max(-1 * 3, -180 - 5))
        self.assertEqual(fence_least(fonts, 0, -LIMIT, -510), max(-1 * 3, -1000 - 5))
        self.assertEqual(fence_least(fonts, 0, -LIMIT, -511), max(-2 * 3, -1002 - 5))
        self.assertEqual(fence_least(fonts_with({}, {"short": 5}), 0, -9, -8), 0)

    def test_great_numbers(self):
        fonts = fonts_with({"axis": LIMIT}, {"factor": 1000, "short": LIMIT})
        self.assertEqual(fence_least(fonts, 0, LIMIT, LIMIT), 4 * LIMIT)
        self.assertEqual(fence_least(fonts, 0, -LIMIT, -LIMIT), 0)


class Root(Case):

    def rooted(self, style, inner, sign, clear, numbers=()):
        """A root whose sign is one glyph; clear is what is free between the inner box and the rule."""
        fonts = made({"p": sign}, numbers, {"empty": 5})
        told = root(fonts, style, (1, "p", 1, "p"), inner)
        size = (0, 0, 0, 0, 1, 1, 2, 2)[style]
        up = inner.height + clear
        marks = list(inner.marks) + ([rule(0, up, inner.width, sign[1], ())] if sign[1] else [])
        box = Box(sign[0] + sign[3], sign[1], sign[2], [glyph(0, 0, "p", 1, size, ())])
        covered = Box(inner.width, up + 2 * sign[1], inner.depth, marks)
        self.assertEqual(told, beside([moved(box, 0, up), covered]))

    def test_clear(self):
        numbers = {
            ("rule", 0): 43, ("xheight", 0): 430, ("rule", 1): 31, ("xheight", 1): 300, ("rule", 2): 20,
            ("xheight", 2): 200,
        }
        inner = Box(500, 300, 100, [rule(1, 2), glyph(3, 4)])
        for style, clear in enumerate([43 + 107] * 2 + [43 + 10] * 2 + [31 + 7] * 2 + [20 + 5] * 2):
            self.rooted(style, inner, plain(40, 20, width=80, slant=9), clear, numbers)

    def test_sign_that_is_deeper(self):
        numbers = {"rule": 40}
        inner = Box(500, 300, 100)
        for depth, clear in ((449, 50), (450, 50), (451, 51), (452, 51), (453, 52), (1000, 325)):
            self.rooted(2, inner, plain(40, depth), clear, numbers)
        self.rooted(2, Box(9, -300, -200), plain(40, 0), 50 + 225, numbers)
        self.rooted(2, Box(9, -300, -201), plain(40, 0), 50 + 226, numbers)

    def test_sign_without_height(self):
        self.rooted(0, Box(500, 300, 100, [rule(9)]), plain(0, 60), 0)
        self.rooted(0, Box(500, 300, 100, [rule(9)]), plain(1, 60), 0)

    def test_size_and_least_total(self):
        numbers = {"rule": 40}
        glyphs = {"p": plain(40, 449, "pp"), "pp": plain(40, 450, "ppp"), "ppp": plain(40, 451)}
        fonts = made(glyphs, numbers)
        # The height and the depth, 50 free, and 40 for the rule.
        for height, name in ((399, "p"), (400, "pp"), (401, "ppp")):
            told = root(fonts, 2, (0, "p", 0, "p"), Box(9, height - 300, 300))
            self.assertEqual(told.marks[0][2], ("glyph", (), 0, 0, name))
        for style, size in enumerate((0, 0, 0, 0, 1, 1, 2, 2)):
            told = root(fonts, style, (0, "p", 0, "p"), Box(9, 0, 0))
            self.assertEqual(told.marks[0][2], ("glyph", (), 0, size, "p"))

    def test_least_total_below_nothing(self):
        fonts = made({"ext": extending("top", None, "bottom", "rep"), "p": plain(10)})
        inner = Box(9, -LIMIT, -LIMIT)
        told = root(fonts, 0, (0, "ext", 0, "p"), inner)
        self.assertEqual([entry[2][4] for entry in told.marks[:2]], ["bottom", "top"])
        told = root(fonts, 0, (0, "p", 0, "ext"), inner)
        self.assertEqual([entry[2][0] for entry in told.marks], ["glyph", "rule"])

    def test_extending_sign_as_ahead_of_its_moving(self):
        fonts = made({"ext": extending("top", None, "bottom", "rep")}, {"rule": 4, "axis": 999})
        inner = Box(50, 40, 30, [rule(7)])
        # Of 30 + 50 and one rep of 7 the upper 20 are above the sign's baseline; at least 40 + 30 + 5 + 4 are needed.
        told = root(fonts, 2, (0, "ext", 0, "ext"), inner)
        up = 40 + 5
        self.assertEqual(told.width, 8 + 50)
        self.assertEqual((told.height, told.depth), (up + 2 * 20, max(30, 60 - up)))
        self.assertEqual(told.marks, [
            glyph(0, up - 60 + 45, "bottom", 0, 0, ()), glyph(0, up - 10 + 10, "top", 0, 0, ()),
            rule(8 + 7), rule(8, up, 50, 20, ()),
        ])

    def test_without_sign(self):
        fonts = made({}, {"rule": 40}, {"empty": 5})
        inner = Box(500, 300, 100, [rule(7)])
        for delimiter in (None, (3, "p", 3, "q")):
            self.assertEqual(root(fonts, 2, delimiter, inner), Box(505, 350, 100, [rule(12)]))
        self.assertEqual(root(fonts, 2, None, Box(500, -300, 100)), Box(505, 0, 300 - 50 - 75))
        self.assertEqual(root(fonts, 2, None, Box(500, 300, -500)), Box(505, 300 + 50 + 75, 0))

    def test_sign_without_any_piece(self):
        fonts = made({"ext": extending(None, None, None, "none"), "none": plain(0, width=6)}, {"rule": 40, "axis": 9})
        told = root(fonts, 2, (0, "ext", 0, "p"), Box(500, 300, 100, [rule(7)]))
        self.assertEqual(told, Box(506, 350, 100, [rule(13)]))

    def test_edges_meet(self):
        chance = random.Random(2)
        for _ in range(200):
            fonts = made({"p": plain(chance.randrange(1, 50), chance.randrange(400))}, {"rule": chance.randrange(50)})
            inner = Box(chance.randrange(-9, 99), chance.randrange(-99, 300), chance.randrange(-99, 300))
            told = root(inner=inner, delimiter=BOTH, style=chance.randrange(8), fonts=fonts)
            sign, bar = told.marks
            self.assertEqual(sign[1] + fonts.glyph(0, 0, "p")[1], bar[1] + bar[2][3])

    def test_great_numbers(self):
        fonts = made({"p": plain(LIMIT, LIMIT)}, {"rule": LIMIT, "xheight": LIMIT})
        inner = Box(LIMIT, LIMIT, LIMIT, [rule(LIMIT, LIMIT, LIMIT, LIMIT)])
        told = root(fonts, 0, BOTH, inner)
        up = LIMIT + LIMIT + LIMIT // 4
        self.assertEqual((told.width, told.height, told.depth), (LIMIT + 10, up + 2 * LIMIT, LIMIT))

    def test_nothing_is_changed_or_kept(self):
        inner = Box(5, 6, 7, [rule()])
        for delimiter in (None, BOTH):
            root(made(SMALL), 0, delimiter, inner).marks.clear()
        self.assertEqual(inner, Box(5, 6, 7, [rule()]))


class WrongArguments(Case):

    def argument(self, name, values):
        return (name, values, InvalidArgument, {"part": name})

    def test_in_order(self):
        wrong = [
            self.argument("fonts", no_fonts()), self.argument("size", no_sizes()),
            self.argument("delimiter", no_delimiters()),
        ]
        right = {"fonts": made(SMALL), "size": 2, "delimiter": (0, "abcdefgh", 3, "a")}
        for function in (candidates, totals):
            self.assertRefuses(function, right, wrong)
        for function in (chosen, grown):
            self.assertRefuses(function, {**right, "least": LIMIT}, wrong + [self.argument("least", no_amounts())])

    def test_fence_least(self):
        right = {"fonts": made(SMALL), "size": 2, "height": LIMIT, "depth": -LIMIT}
        self.assertRefuses(fence_least, right, [
            self.argument("fonts", no_fonts()), self.argument("size", no_sizes()),
            self.argument("height", no_signed()), self.argument("depth", no_signed()),
        ])

    def test_root(self):
        right = {"fonts": made(SMALL), "style": 7, "delimiter": None, "inner": Box(LIMIT, -LIMIT, LIMIT)}
        for part, box in wrong_boxes():
            self.assertRefuses(root, right, [
                self.argument("fonts", no_fonts()[:2]), self.argument("style", no_styles()[:2]),
                self.argument("delimiter", no_delimiters()[:2]), ("inner", [box], InvalidBox, {"part": part}),
            ])
        self.assertRefuses(root, right, [
            self.argument("fonts", no_fonts()), self.argument("style", no_styles()),
            self.argument("delimiter", no_delimiters()), ("inner", [None], InvalidBox, {"part": "box"}),
        ])


if __name__ == "__main__":
    unittest.main()
