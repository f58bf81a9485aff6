"""Operators and their limits (points 57 to 60)."""

import random
import unittest

from mathboxes.boxes import Box
from mathboxes.errors import InvalidArgument, NoGlyph
from mathboxes.layout import layout
from mathboxes.operators import limit_rooms, limit_shifts, limited, operator_symbol
from mathboxes.scripts import scripted
from tests.samples import (
    LIMIT, Case, fonts_with, glyph, no_amounts, no_boxes, no_fonts, no_styles, odd_values, rule, symbol,
)

SIZES = (0, 0, 0, 0, 1, 1, 2, 2)
GAPS = {"gap1": 100, "gap2": 110, "gap3": 200, "gap4": 190, "gap5": 50}
SUM = {"sum": (700, 600, 200, 30, "great", None), "great": (1000, 900, 401, 50, "vast", None), "vast": (1, 1, 1, 1, None, None)}


def box(width=0, height=0, depth=0, marks=()):
    return Box(width, height, depth, marks)


class Symbol(Case):

    def test_examples(self):
        glyphs = {"a": (1000, 750, 250, 0, None, None), "b": (1000, 700, 101, 0, None, None)}
        fonts = fonts_with({"axis": 250}, glyphs=glyphs)
        told = operator_symbol(fonts, 0, 0, "a", True)
        self.assertEqual(told, (Box(1000, 750, 250, [glyph(path=())]), 0))
        told = operator_symbol(fonts, 0, 0, "b", True)
        self.assertEqual(told, (Box(1000, 650, 151, [glyph(0, -50, "b", path=())]), 0))

    def test_one_step_in_display(self):
        fonts = fonts_with(glyphs=SUM)
        for style, size in enumerate(SIZES):
            for name, taken in (("sum", "great" if style <= 1 else "sum"), ("vast", "vast")):
                told, slant = operator_symbol(fonts, style, 1, name, False)
                self.assertEqual([mark[2] for mark in told.marks], [("glyph", (), 1, size, taken)])
                self.assertEqual((told.width, slant), (SUM[taken][0], SUM[taken][3]))

    def test_slant(self):
        fonts = fonts_with(glyphs=SUM)
        self.assertEqual([operator_symbol(fonts, 2, 0, "sum", wide)[0].width for wide in (True, False)], [730, 700])
        self.assertEqual([operator_symbol(fonts, 2, 0, "sum", wide)[1] for wide in (True, False)], [30, 30])

    def test_middle_on_the_axis(self):
        for height, depth, moved in ((0, 0, 0), (1, 0, 1), (0, 1, 0), (3, 0, 2), (0, 3, -1), (LIMIT, 0, LIMIT // 2)):
            for style, size in enumerate(SIZES):
                fonts = fonts_with({("axis", size): 30}, glyphs={"a": (9, height, depth, 0, None, None)})
                told, _ = operator_symbol(fonts, style, 0, "a", False)
                lower = moved - 30
                self.assertEqual(told, Box(9, height - lower, depth + lower, [glyph(0, -lower, size=size, path=())]))

    def test_by_name(self):
        fonts = fonts_with(glyphs=SUM)
        told = operator_symbol(is_wide=True, name="sum", family=1, style=2, fonts=fonts)
        self.assertEqual(told, operator_symbol(fonts, 2, 1, "sum", True))
        self.assertIs(told.__class__, tuple)


class Limits(Case):

    def test_example(self):
        fonts = fonts_with({"gap1": 100, "gap3": 200, "gap5": 50})
        nucleus, sup = box(600, 500, 300), box(800, 400, 30)
        self.assertEqual(limit_shifts(fonts, 0, nucleus, sup, None), (700, None))
        self.assertEqual(limit_rooms(fonts, 0, sup, None), (70, None))
        self.assertEqual(limited(fonts, 0, nucleus, 0, sup, None), Box(800, 1150, 300))

    def test_shifts(self):
        for style, size in enumerate(SIZES):
            fonts = fonts_with({(word, size): number for word, number in GAPS.items()})
            nucleus = box(9, 1000, 2000)
            for deep, rise in ((-LIMIT, 200), (99, 200), (100, 200), (101, 201), (LIMIT, LIMIT + 100)):
                self.assertEqual(limit_shifts(fonts, style, nucleus, box(0, 0, deep), None), (1000 + rise, None))
            for high, fall in ((-LIMIT, 190), (79, 190), (80, 190), (81, 191), (LIMIT, LIMIT + 110)):
                self.assertEqual(limit_shifts(fonts, style, nucleus, None, box(0, high)), (None, 2000 + fall))
            self.assertEqual(limit_shifts(fonts, style, box(0, -5, -6), box(), box()), (195, 184))
            self.assertEqual(limit_shifts(fonts, style, nucleus, None, None), (None, None))

    def test_rooms(self):
        for style, size in enumerate(SIZES):
            fonts = fonts_with({(word, size): number for word, number in GAPS.items()})
            for deep, room in ((-5, 105), (0, 100), (99, 1), (100, 0), (101, 0), (LIMIT, 0)):
                self.assertEqual(limit_rooms(fonts, style, box(0, 0, deep), None), (room, None))
            for high, room in ((-5, 85), (0, 80), (79, 1), (80, 0), (81, 0)):
                self.assertEqual(limit_rooms(fonts, style, None, box(0, high)), (None, room))
            self.assertEqual(limit_rooms(fonts, style, box(), box()), (100, 80))
            self.assertEqual(limit_rooms(fonts, style, None, None), (None, None))

    def test_sizes_and_marks(self):
        fonts = fonts_with(GAPS)
        nucleus = Box(100, 60, 40, [rule(1, 2), glyph(3, 4)])
        sup, sub = Box(51, 30, 10, [rule(5, 6)]), Box(20, 25, 15, [glyph(7, 8)])
        rise, fall = 60 + 200, 40 + 190
        told = limited(fonts, 0, nucleus, 7, sup, sub)
        self.assertEqual(told, Box(100, rise + 30 + 50, fall + 15 + 50, [
            rule(1, 2), glyph(3, 4), rule(24 + 4 + 5, rise + 6), glyph(40 - 4 + 7, -fall + 8),
        ]))
        told = limited(fonts, 0, nucleus, 7, None, sub)
        self.assertEqual(told, Box(100, 60, fall + 65, [rule(1, 2), glyph(3, 4), glyph(43, -fall + 8)]))
        told = limited(fonts, 0, nucleus, 8, sup, None)
        self.assertEqual(told, Box(100, rise + 80, 40, [rule(1, 2), glyph(3, 4), rule(24 + 4 + 5, rise + 6)]))

    def test_widths(self):
        fonts = fonts_with(GAPS)
        for width, nucleus_x, sup_x, sub_x in (
            ((10, 5, 4), 0, 2, 3), ((5, 10, 4), 2, 0, 3), ((5, 4, 10), 2, 3, 0), ((-5, -4, -10), 0, 0, 3),
        ):
            nucleus, sup, sub = (Box(one, 0, 0, [rule()]) for one in width)
            for slant, up in ((0, 0), (1, 1), (2, 1), (3, 2), (LIMIT, LIMIT // 2)):
                told = limited(fonts, 0, nucleus, slant, sup, sub)
                self.assertEqual(told.width, max(width))
                self.assertEqual([mark[0] for mark in told.marks], [nucleus_x, sup_x + up, sub_x - up])
        # Only what is there counts.
        self.assertEqual(limited(fonts, 0, box(-5), 0, None, None).width, -5)
        self.assertEqual(limited(fonts, 0, box(-5), 0, box(-6), None).width, -5)

    def test_without_limits(self):
        nucleus = Box(-5, -6, -7, [rule(3, 4)])
        told = limited(fonts_with(GAPS), 0, nucleus, 9, None, None)
        self.assertEqual(told, nucleus)
        told.marks.clear()
        self.assertEqual(nucleus.marks, [rule(3, 4)])

    def test_gap5_without_floors(self):
        told = limited(fonts_with({"gap5": 3}), 0, box(0, -50, -60), 0, box(0, -9), box(0, -100, -7))
        self.assertEqual((told.height, told.depth), (-50 - 9 + 3, -60 - 7 + 3))

    def test_facts(self):
        chance = random.Random(8)
        for _ in range(300):
            fonts = fonts_with({word: chance.randrange(50) for word in GAPS})
            nucleus, sup, sub = (box(*[chance.randrange(-30, 60) for _ in range(3)]) for _ in range(3))
            rise, fall = limit_shifts(fonts, 0, nucleus, sup, sub)
            self.assertGreaterEqual(rise - sup.depth - nucleus.height, fonts.number_at("gap1", 0))
            self.assertGreaterEqual(rise - nucleus.height, fonts.number_at("gap3", 0))
            room, sub_room = limit_rooms(fonts, 0, sup, sub)
            deeper = [box(0, 0, sup.depth + more) for more in (room, room + 1)]
            self.assertEqual(limit_shifts(fonts, 0, nucleus, deeper[0], sub)[0] == rise, True)
            self.assertGreater(limit_shifts(fonts, 0, nucleus, deeper[1], sub)[0], rise)
            higher = [box(0, sub.height + more) for more in (sub_room, sub_room + 1)]
            self.assertEqual(limit_shifts(fonts, 0, nucleus, sup, higher[0])[1], fall)
            self.assertGreater(limit_shifts(fonts, 0, nucleus, sup, higher[1])[1], fall)

    def test_by_name(self):
        fonts = fonts_with(GAPS)
        self.assertEqual(
            limited(sub=None, sup=box(), slant=3, nucleus=box(5), style=4, fonts=fonts),
            limited(fonts, 4, box(5), 3, box(), None))
        self.assertEqual(
            limit_shifts(sub=None, sup=box(), nucleus=box(5), style=4, fonts=fonts),
            limit_shifts(fonts, 4, box(5), box(), None))
        self.assertEqual(
            limit_rooms(sub=None, sup=box(), style=4, fonts=fonts), limit_rooms(fonts, 4, box(), None))


class InFormulas(Case):

    def setUp(self):
        glyphs = {
            **SUM, "a": (500, 400, 10, 20, None, None), "b": (300, 200, 50, 0, None, None),
            "ab": (900, 450, 60, 0, None, None),
        }
        numbers = {**GAPS, "axis": 250, "supdrop": 30, "subdrop": 40, "sup1": 350, "sup2": 320, "sup3": 300, "sub1": 100}
        self.fonts = fonts_with(numbers, {"scriptspace": 13}, glyphs, {("b", "a"): ("join", "ab")})

    def operator(self, word, inner, sup=None, sub=None):
        return ("operator", word, inner, sup, sub)

    def script(self, style, way):
        """The box of the symbol b in a script, with its path."""
        return Box(300, 200, 50, [glyph(0, 0, "b", 0, SIZES[style], (0, way, 0))])

    def scripts(self, style):
        sup_style, sub_style = (4, 5, 4, 5, 6, 7, 6, 7)[style], (5, 5, 5, 5, 7, 7, 7, 7)[style]
        return self.script(sup_style, 3), self.script(sub_style, 4)

    def nucleus(self, style, wide, name="sum"):
        told, slant = operator_symbol(self.fonts, style, 0, name, wide)
        marks = [(x, y, ("glyph", (0, 2, 0), *mark[2:])) for x, y, mark in told.marks]
        return Box(told.width, told.height, told.depth, marks), slant

    def test_lone_symbol(self):
        b = [symbol("b")]
        for style in range(8):
            sup, sub = self.scripts(style)
            for word in ("display", "always", "never"):
                has_limits = word == "always" or (word == "display" and style in (0, 1))
                for one, other in ((None, None), (sup, None), (None, sub), (sup, sub)):
                    told = layout(self.fonts, [self.operator(word, [symbol("sum")], one and b, other and b)], style)
                    nucleus, slant = self.nucleus(style, has_limits or other is None)
                    if one is None and other is None:
                        self.assertEqual(told, nucleus)
                    elif has_limits:
                        self.assertEqual(told, limited(self.fonts, style, nucleus, slant, one, other))
                    else:
                        slant = slant if other is not None else 0
                        self.assertEqual(told, scripted(self.fonts, style, nucleus, False, slant, one, other))

    def test_class_of_the_symbol_does_not_matter(self):
        for kind in ("bin", "rel", "open", "close", "punct"):
            for style in range(8):
                told = layout(self.fonts, [self.operator("never", [symbol("sum", kind=kind)])], style)
                self.assertEqual(told, self.nucleus(style, True)[0])

    def test_other_formulas(self):
        b = [symbol("b")]
        a = symbol("a")
        for style in range(8):
            for inner in (
                [], [symbol("a", b)], [symbol("a", None, [])], [("style", 0), a], [("style", 4), a],
                [("kern", 0, "units"), a], [a, ("kern", 5, "mu")], [("choice", [a], [a], [a], [a])],
                [symbol("b"), a], [("list", "ord", [a], None, None)], [self.operator("never", [a])],
            ):
                alone = layout(self.fonts, inner, style)
                marks = [
                    (x, y, (mark[0], (0, 2, *mark[1]), *mark[2:])) for x, y, mark in alone.marks
                ]
                nucleus = Box(alone.width, alone.height, alone.depth, marks)
                sup, sub = self.scripts(style)
                told = layout(self.fonts, [self.operator("always", inner, b, b)], style)
                limits = limited(self.fonts, style, nucleus, 0, sup, sub)
                self.assertEqual(told, Box(limits.width, max(0, limits.height), max(0, limits.depth), limits.marks))
                told = layout(self.fonts, [self.operator("never", inner, b, b)], style)
                self.assertEqual(told, scripted(self.fonts, style, nucleus, False, 0, sup, sub))
                self.assertEqual(layout(self.fonts, [self.operator("always", inner)], style), nucleus)

    def test_empty_scripts_are_scripts(self):
        for style in range(8):
            told = layout(self.fonts, [self.operator("always", [symbol("sum")], [], None)], style)
            nucleus, slant = self.nucleus(style, True)
            self.assertEqual(told, limited(self.fonts, style, nucleus, slant, Box(0, 0, 0), None))

    def test_glyph_that_lacks(self):
        for style in range(8):
            for name, family in (("zz", 0), ("sum", 2)):
                formula = [self.operator("always", [symbol(name, family=family)])]
                self.assertTells(NoGlyph, {"family": family, "name": name}, layout, self.fonts, formula, style)


class WrongArguments(Case):

    def argument(self, name, values):
        return (name, values, InvalidArgument, {"part": name})

    def no_scripts(self):
        return [0] + [value for value in no_boxes() if value is not None]

    def test_operator_symbol(self):
        fonts = fonts_with(glyphs={**SUM, (0, 0, "low"): (1, 1, 1, 1, None, None)})
        right = {"fonts": fonts, "style": 7, "family": 1, "name": "sum", "is_wide": False}
        flags = [None, 0, 1, "True", (True,)] + [value for value in odd_values() if value.__class__ is not bool]
        first = [
            self.argument("fonts", no_fonts()), self.argument("style", no_styles()),
            self.argument("family", [2, 3, -1, None, LIMIT] + odd_values()),
            self.argument("name", [None, 0, "", "A", "abcdefghi", "a b", ("a",)] + odd_values()),
        ]
        last = [self.argument("is_wide", flags)]
        self.assertRefuses(operator_symbol, right, first + last)
        for family, name in ((1, "low"), (0, "low"), (0, "zz")):
            self.assertRefuses(operator_symbol, {**right, "family": family}, [
                ("name", [name], NoGlyph, {"family": family, "name": name}),
            ] + last)

    def test_limits(self):
        right = {
            "fonts": fonts_with(), "style": 7, "nucleus": Box(LIMIT, LIMIT, LIMIT, [rule(LIMIT)]), "slant": LIMIT,
            "sup": Box(-LIMIT, -LIMIT, -LIMIT), "sub": Box(LIMIT, -LIMIT, LIMIT),
        }
        wrong = [
            self.argument("fonts", no_fonts()), self.argument("style", no_styles()),
            self.argument("nucleus", [None] + no_boxes()), self.argument("slant", no_amounts()),
            self.argument("sup", self.no_scripts()), self.argument("sub", self.no_scripts()),
        ]
        names = {
            limited: ("fonts", "style", "nucleus", "slant", "sup", "sub"),
            limit_shifts: ("fonts", "style", "nucleus", "sup", "sub"),
            limit_rooms: ("fonts", "style", "sup", "sub"),
        }
        for function, there in names.items():
            some = {name: right[name] for name in there}
            self.assertRefuses(function, some, [entry for entry in wrong if entry[0] in there])

    def test_nothing_is_changed_or_kept(self):
        nucleus, sup, sub = (Box(1, 2, 3, [rule(at)]) for at in range(3))
        limited(fonts_with(GAPS), 0, nucleus, 5, sup, sub).marks.clear()
        self.assertEqual([nucleus, sup, sub], [Box(1, 2, 3, [rule(at)]) for at in range(3)])


if __name__ == "__main__":
    unittest.main()
