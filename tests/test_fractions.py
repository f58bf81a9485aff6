"""Fractions (points 40 to 43)."""

import random
import unittest

from mathboxes.boxes import Box, beside
from mathboxes.delimiters import grown
from mathboxes.errors import InvalidArgument, InvalidBox
from mathboxes.fractions import fraction, fraction_shifts
from tests.samples import (
    LIMIT, Case, fonts_with, glyph, no_amounts, no_delimiters, no_fonts, no_styles, rule, wrong_boxes,
)

SIZES = (0, 0, 0, 0, 1, 1, 2, 2)
EMPTY = Box(0, 0, 0)
WORDS = ("up1", "up2", "up3", "down1", "down2", "axis", "rule", "delim1", "delim2")


def half(number):
    return (number + 1) // 2


def box(height=0, depth=0, width=0, marks=()):
    return Box(width, height, depth, marks)


class Shifts(Case):

    def shifted(self, expected, num, den, style=0, thickness=None, **numbers):
        fonts = fonts_with({(word, SIZES[style]): number for word, number in numbers.items()})
        self.assertEqual(fraction_shifts(fonts, style, num, den, thickness=thickness), expected)

    def test_numbers_of_all_styles(self):
        # Great ones, so that nothing lacks.
        for style in range(8):
            for thickness in (None, 0, 5):
                for word in ("up1", "up2", "up3", "down1", "down2"):
                    for size in range(3):
                        fonts = fonts_with({(word, size): 9000, ("rule", 0, 1, 2): 5})
                        up, down = fraction_shifts(fonts, style, box(0, -9000), box(-9000), thickness=thickness)
                        with_rule = "up2" if thickness != 0 else "up3"
                        is_here = size == SIZES[style]
                        self.assertEqual(up == 9000, is_here and word == ("up1" if style <= 1 else with_rule))
                        self.assertEqual(down == 9000, is_here and word == ("down1" if style <= 1 else "down2"))

    def test_gap_without_rule(self):
        for style in range(8):
            least = (7 if style <= 1 else 3) * 10
            numbers = {"up1": 100, "up3": 100, "down1": 50, "down2": 50, "rule": 10, "up2": 999}
            # The gap is 100 - 30 - (height - 50).
            enough = 120 - least
            for more, grown_by in ((-9, 0), (0, 0), (1, 1), (2, 1), (3, 2), (4, 2), (101, 51)):
                self.shifted((100 + grown_by, 50 + grown_by), box(7, 30), box(enough + more, 8), style, 0, **numbers)

    def test_gaps_beside_a_rule(self):
        for style in range(8):
            for thick, upper, lower in ((10, 105, 95), (11, 106, 95), (1, 101, 100), (2, 101, 99)):
                least = 3 * thick if style <= 1 else thick
                numbers = {"up1": 300, "up2": 300, "down1": 200, "down2": 200, "axis": 100, "up3": 999}
                deep, high = 300 - upper - least, lower - least + 200
                for more in (-5, 0, 1, 2, 50):
                    lacking = max(0, more)
                    self.shifted((300 + lacking, 200), box(0, deep + more), box(high), style, thick, **numbers)
                    self.shifted((300, 200 + lacking), box(0, deep), box(high + more), style, thick, **numbers)

    def test_thickness_of_none_is_the_rule(self):
        fonts = fonts_with({"rule": 6, "axis": 3, "up1": 1, "up3": 2})
        for style in range(8):
            for num, den in ((EMPTY, EMPTY), (box(3, 4), box(5, 6)), (box(-3, -4), box(-5, -6))):
                self.assertEqual(
                    fraction_shifts(fonts, style, num, den),
                    fraction_shifts(fonts, style, num, den, thickness=6))
        fonts = fonts_with({"up3": 9})
        self.assertEqual(fraction_shifts(fonts, 2, EMPTY, EMPTY), (9, 0))
        self.assertEqual(fraction_shifts(fonts, 2, EMPTY, EMPTY, thickness=None), (9, 0))

    def test_great_numbers(self):
        fonts = fonts_with(dict.fromkeys(WORDS, LIMIT))
        told = fraction_shifts(fonts, 0, box(0, LIMIT), box(LIMIT), thickness=LIMIT)
        upper = LIMIT + LIMIT // 2
        self.assertEqual(told, (3 * LIMIT + upper + LIMIT, 3 * LIMIT + LIMIT - (upper - LIMIT)))

    def test_facts(self):
        chance = random.Random(3)
        for _ in range(500):
            numbers = {word: chance.randrange(60) for word in WORDS}
            fonts = fonts_with(numbers)
            style, thickness = chance.randrange(8), chance.choice([None, 0, 0, 3, 8])
            num, den = (box(chance.randrange(-50, 90), chance.randrange(-50, 90)) for _ in range(2))
            up, down = fraction_shifts(fonts, style, num, den, thickness=thickness)
            thick = numbers["rule"] if thickness is None else thickness
            first_up = numbers["up1" if style <= 1 else "up2" if thick else "up3"]
            first_down = numbers["down1" if style <= 1 else "down2"]
            self.assertTrue(up >= first_up and down >= first_down)
            if thick == 0:
                least = (7 if style <= 1 else 3) * numbers["rule"]
                gap = (up - num.depth) - (den.height - down)
                self.assertEqual(up - first_up, down - first_down)
                self.assertGreaterEqual(gap, least)
                self.assertTrue(up == first_up or gap - 2 < least)
            else:
                least = 3 * thick if style <= 1 else thick
                upper = numbers["axis"] + half(thick)
                self.assertGreaterEqual(up - num.depth - upper, least)
                self.assertGreaterEqual(upper - thick - den.height + down, least)
                self.assertTrue(up == first_up or up - num.depth - upper == least)
                self.assertTrue(down == first_down or upper - thick - den.height + down == least)


class Fraction(Case):

    def test_marks_and_sizes(self):
        num, den = Box(30, 20, 10, [rule(1, 2), glyph(3, 4)]), Box(41, 25, 15, [glyph(5, 6)])
        for style in range(8):
            fonts = fonts_with({"axis": 12, "rule": 7}, {"empty": 9})
            up, down = fraction_shifts(fonts, style, num, den)
            # At least 3 * 7 or 7 are free above and below the rule, which reaches from 9 to 16.
            least = 21 if style <= 1 else 7
            self.assertEqual((up, down), (16 + least + 10, 25 + least - 9))
            told = fraction(fonts, style, num, den)
            self.assertEqual(told, Box(9 + 41 + 9, up + 20, down + 15, [
                rule(9 + 5 + 1, up + 2), glyph(9 + 5 + 3, up + 4), glyph(9 + 5, -down + 6), rule(9, 9, 41, 7, ()),
            ]))

    def test_middles(self):
        for wide, place in ((0, 50), (1, 49), (2, 49), (3, 48), (-1, 50), (-2, 51), (100, 0)):
            num, den = Box(wide, 0, 0, [rule()]), Box(100, 0, 0, [glyph()])
            told = fraction(fonts_with(), 0, num, den)
            self.assertEqual([mark[0] for mark in told.marks], [place, 0])
            told = fraction(fonts_with(), 0, den, num)
            self.assertEqual([mark[0] for mark in told.marks], [0, place])
        told = fraction(fonts_with(), 0, Box(-5, 0, 0, [rule()]), Box(-8, 0, 0, [glyph()]))
        self.assertEqual((told.width, [mark[0] for mark in told.marks]), (-5, [0, 1]))

    def test_thickness(self):
        fonts = fonts_with({"rule": 7, "axis": 40})
        for thickness, lower in ((1, 40), (2, 39), (3, 39), (None, 37), (7, 37), (8, 36), (LIMIT, 40 - LIMIT // 2)):
            told = fraction(fonts, 0, EMPTY, EMPTY, thickness=thickness)
            self.assertEqual(told.marks, [rule(0, lower, 0, 7 if thickness is None else thickness, ())])
        self.assertEqual(fraction(fonts, 0, EMPTY, EMPTY, thickness=0).marks, [])
        self.assertEqual(fraction(fonts_with(), 0, EMPTY, EMPTY).marks, [])

    def test_delimiters(self):
        glyphs = {"p": (10, 40, 20, 3, "pp", None), "pp": (12, 90, 50, 0, None, None), "q": (14, 80, 70, 1, None, None)}
        num, den = Box(30, 20, 10, [rule(1, 2)]), Box(20, 25, 15, [rule(5, 6)])
        for style, size in enumerate(SIZES):
            for word in ("delim1", "delim2"):
                fonts = fonts_with({(word, size): 61, "axis": 50}, {"empty": 9}, glyphs)
                least = 61 if word == ("delim1" if style <= 1 else "delim2") else 0
                left, right = (0, "p", 0, "q"), (1, "q", 1, "p")
                between = fraction(fonts, style, num, den)
                between = Box(30, between.height, between.depth, [(x - 9, y, mark) for x, y, mark in between.marks])
                ends = [grown(fonts, size, delimiter, least) for delimiter in (left, right)]
                self.assertEqual(ends[0].width, 12 if least else 13)
                told = fraction(fonts, style, num, den, left=left, right=right)
                self.assertEqual(told, beside([ends[0], between, ends[1]]))
                told = fraction(fonts, style, num, den, right=right)
                self.assertEqual(told, beside([Box(9, 0, 0), between, ends[1]]))
                told = fraction(fonts, style, num, den, left=(3, "p", 0, "zz"))
                self.assertEqual(told, beside([Box(9, 0, 0), between, Box(9, 0, 0)]))

    def test_never_below_nothing(self):
        told = fraction(fonts_with(), 0, box(-9), box(0, -8), thickness=0)
        self.assertEqual((told.height, told.depth), (0, 0))
        told = fraction(fonts_with({"up1": 10, "down1": 10}), 0, box(-9), box(0, -8), thickness=0)
        self.assertEqual((told.height, told.depth), (1, 2))

    def test_nothing_is_changed_or_kept(self):
        num, den = Box(1, 2, 3, [rule()]), Box(4, 5, 6, [glyph()])
        fonts = fonts_with({"rule": 5})
        fraction(fonts, 0, num, den).marks.clear()
        self.assertEqual([num, den, fonts], [Box(1, 2, 3, [rule()]), Box(4, 5, 6, [glyph()]), fonts_with({"rule": 5})])
        self.assertIs(fraction_shifts(fonts, 0, num, den).__class__, tuple)

    def test_by_name(self):
        fonts = fonts_with({"rule": 5})
        self.assertEqual(
            fraction(den=box(1), num=box(2), style=3, fonts=fonts, right=None, left=None, thickness=4),
            fraction(fonts, 3, box(2), box(1), thickness=4))
        self.assertEqual(
            fraction_shifts(den=box(1), num=box(2), style=3, fonts=fonts), fraction_shifts(fonts, 3, box(2), box(1)))
        for function in (fraction, fraction_shifts):
            with self.assertRaises(TypeError):
                function(fonts, 3, box(), box(), 4)


class WrongArguments(Case):

    def test_in_order(self):
        right = {
            "fonts": fonts_with(), "style": 7, "num": Box(LIMIT, -LIMIT, LIMIT, [rule(LIMIT)]), "den": EMPTY,
            "thickness": LIMIT,
        }
        thin = [value for value in no_amounts() if value is not None]
        wrong = [
            ("fonts", no_fonts(), InvalidArgument, {"part": "fonts"}),
            ("style", no_styles(), InvalidArgument, {"part": "style"}),
            ("num", [None], InvalidBox, {"part": "box"}),
            ("den", [None], InvalidBox, {"part": "box"}),
            ("thickness", thin, InvalidArgument, {"part": "thickness"}),
        ]
        ends = [
            (name, no_delimiters(), InvalidArgument, {"part": name}) for name in ("left", "right")
        ]
        self.assertRefuses(fraction_shifts, right, wrong)
        self.assertRefuses(fraction, {**right, "left": None, "right": (3, "a", 0, "abcdefgh")}, wrong + ends)

    def test_boxes(self):
        right = {"fonts": fonts_with(), "style": 0, "num": EMPTY, "den": EMPTY}
        for part, value in wrong_boxes():
            for name in ("num", "den"):
                for function in (fraction, fraction_shifts):
                    self.assertRefuses(function, right, [
                        (name, [value], InvalidBox, {"part": part}),
                        ("thickness", [-1], InvalidArgument, {"part": "thickness"}),
                    ])


if __name__ == "__main__":
    unittest.main()
