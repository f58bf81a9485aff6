"""Bars, boxes on the axis, and accents (points 51 to 56)."""

import random
import unittest

from mathboxes.accents import accent_steps, accented, centered, overlined, underlined
from mathboxes.boxes import Box
from mathboxes.errors import InvalidArgument, NoGlyph
from tests.samples import LIMIT, Case, fonts_with, glyph, no_boxes, no_fonts, no_signed, no_sizes, no_styles, odd_values, rule

SIZES = (0, 0, 0, 0, 1, 1, 2, 2)
MARKS = [rule(1, 2), glyph(3, 4)]


def accent(width, later=None, height=0, depth=0, slant=0):
    return (width, height, depth, slant, later, None)


HATS = {"hat": accent(300, "wide"), "wide": accent(500, "wider"), "wider": accent(400)}


class Bars(Case):

    def test_example(self):
        told = overlined(fonts_with({"rule": 40}), 0, Box(500, 300, 100))
        self.assertEqual(told, Box(500, 500, 100, [rule(0, 420, 500, 40, ())]))

    def test_over(self):
        for style, size in enumerate(SIZES):
            fonts = fonts_with({("rule", size): 40})
            told = overlined(fonts, style, Box(500, -300, 100, MARKS))
            self.assertEqual(told, Box(500, -100, 100, MARKS + [rule(0, -180, 500, 40, ())]))

    def test_under(self):
        for style, size in enumerate(SIZES):
            fonts = fonts_with({("rule", size): 40})
            told = underlined(fonts, style, Box(500, 300, 100, MARKS))
            self.assertEqual(told, Box(500, 300, 300, MARKS + [rule(0, -260, 500, 40, ())]))
            # The upper edge of the rule.
            self.assertEqual(-260 + 40, -100 - 3 * 40)

    def test_no_rule_and_great_ones(self):
        fonts = fonts_with()
        box = Box(-7, 3, -1, MARKS)
        self.assertEqual(overlined(fonts, 0, box), Box(-7, 3, -1, MARKS + [rule(0, 3, -7, 0, ())]))
        self.assertEqual(underlined(fonts, 0, box), Box(-7, 3, -1, MARKS + [rule(0, 1, -7, 0, ())]))
        fonts = fonts_with({"rule": LIMIT})
        box = Box(LIMIT, LIMIT, LIMIT)
        self.assertEqual(overlined(fonts, 0, box), Box(LIMIT, 6 * LIMIT, LIMIT, [rule(0, 4 * LIMIT, LIMIT, LIMIT, ())]))
        self.assertEqual(underlined(fonts, 0, box), Box(LIMIT, LIMIT, 6 * LIMIT, [rule(0, -5 * LIMIT, LIMIT, LIMIT, ())]))

    def test_by_name(self):
        box = Box(5, 3, 1)
        for function in (overlined, underlined, centered):
            self.assertEqual(function(inner=box, style=0, fonts=fonts_with()), function(fonts_with(), 0, box))


class Centered(Case):

    def test_example(self):
        told = centered(fonts_with({"axis": 250}), 0, Box(500, 300, 101, MARKS))
        self.assertEqual(told, Box(500, 451, -50, [rule(1, 153), glyph(3, 155)]))

    def test_halves(self):
        rows = ((0, 0, 0), (1, 0, 1), (0, 1, 1), (1, 1, 1), (2, 1, 2), (-1, 0, 0), (0, -2, -1), (-2, -1, -1), (-4, 0, -2))
        for height, depth, half in rows:
            for style, size in enumerate(SIZES):
                fonts = fonts_with({("axis", size): 50})
                told = centered(fonts, style, Box(9, height, depth, [rule(1, 2)]))
                high = 50 + half
                self.assertEqual(told, Box(9, high, height + depth - high, [rule(1, 2 + high - height)]))

    def test_again(self):
        chance = random.Random(1)
        for _ in range(200):
            fonts = fonts_with({"axis": chance.randrange(99)})
            once = centered(fonts, 0, Box(9, chance.randrange(-99, 99), chance.randrange(-99, 99), [rule(1, 2)]))
            self.assertEqual(centered(fonts, 0, once), once)

    def test_great_numbers(self):
        fonts = fonts_with({"axis": LIMIT})
        self.assertEqual(centered(fonts, 0, Box(LIMIT, LIMIT, LIMIT)), Box(LIMIT, 2 * LIMIT, 0))
        self.assertEqual(centered(fonts, 0, Box(0, -LIMIT, -LIMIT)), Box(0, 0, -2 * LIMIT))


class Steps(Case):

    def steps(self, widths, expected):
        """The steps of a chain of glyphs a, b, c and so on of such widths."""
        names = "abcdefgh"[:len(widths)]
        glyphs = {
            name: accent(width, later, slant=99) for name, width, later in zip(names, widths, [*names[1:], None])
        }
        self.assertEqual(accent_steps(fonts_with(glyphs=glyphs), 0, 0, "a"), expected)

    def test_example(self):
        self.assertEqual(accent_steps(fonts_with(glyphs=HATS), 1, 2, "hat"), [(0, "hat"), (500, "wider")])
        self.assertEqual(accent_steps(name="wide", size=0, family=0, fonts=fonts_with(glyphs=HATS)), [(0, "wide"), (400, "wider")])

    def test_chains(self):
        self.steps([5], [(0, "a")])
        self.steps([LIMIT], [(0, "a")])
        self.steps([5, 6, 7], [(0, "a"), (6, "b"), (7, "c")])
        self.steps([5, 6, 6, 7], [(0, "a"), (6, "c"), (7, "d")])
        self.steps([5, 6, 5, 6, 7, 6], [(0, "a"), (6, "d"), (7, "f")])
        self.steps([9, 6, 7], [(0, "a"), (6, "b"), (7, "c")])
        self.steps([9, 0], [(0, "b")])
        self.steps([9, 0, 0, 1], [(0, "c"), (1, "d")])
        self.steps([0, 7, 3, 2, 1], [(0, "a"), (7, "e")])
        self.steps([1, LIMIT], [(0, "a"), (LIMIT, "b")])

    def test_as_accented(self):
        chance = random.Random(6)
        for _ in range(300):
            names = "abcdef"[:chance.randrange(1, 7)]
            glyphs = {
                name: accent(chance.randrange(8), later, slant=chance.randrange(5))
                for name, later in zip(names, [*names[1:], None])
            }
            fonts = fonts_with(glyphs={(0, 1, name): there for name, there in glyphs.items()})
            told = accent_steps(fonts, 0, 1, "a")
            found = []
            for width in range(10):
                taken = accented(fonts, 4, 0, "a", Box(width, 0, 0)).marks[0][2][4]
                if not found or found[-1][1] != taken:
                    found.append((width, taken))
            self.assertEqual(told, found)
            self.assertEqual(names.index(told[-1][1]), len(names) - 1)
            taken = accented(fonts, 4, 0, "a", Box(-1, 0, 0)).marks[0][2][4]
            self.assertEqual(taken, "a")

    def test_new(self):
        fonts = fonts_with(glyphs=HATS)
        accent_steps(fonts, 0, 0, "hat").clear()
        self.assertEqual(accent_steps(fonts, 0, 0, "hat"), [(0, "hat"), (500, "wider")])
        self.assertEqual(fonts, fonts_with(glyphs=HATS))


class Accented(Case):

    def test_example(self):
        fonts = fonts_with({"xheight": 430}, glyphs={"hat": accent(300, None, 700)})
        told = accented(fonts, 0, 0, "hat", Box(500, 700, 0, MARKS))
        self.assertEqual(told, Box(500, 970, 0, MARKS + [glyph(100, 270, "hat", path=())]))

    def accents(self, expected, inner, old=None, skew=0):
        """Where an accent stands, and the height of the whole; the xheight is 430."""
        fonts = fonts_with({"xheight": 430}, glyphs={"hat": (30, 70, 0, 8, None, None)})
        told = accented(fonts, 0, 0, "hat", inner, old, skew)
        x, y, height = expected
        self.assertEqual(told, Box(inner.width, height, inner.depth, inner.marks + [glyph(x, y, "hat", path=())]))

    def test_across(self):
        for width, x in ((38, 0), (39, 1), (40, 1), (41, 2), (37, 0), (36, -1), (35, -1), (0, -19), (-1, -19), (-2, -20)):
            self.accents((x, 0, 70), Box(width, 0, 0))
            self.accents((x + 5, 0, 70), Box(width, 0, 0), None, 5)
            self.accents((x - LIMIT, 0, 70), Box(width, 0, 0), None, -LIMIT)
            self.accents((x, 0, 70), Box(999, 0, 0, MARKS), Box(width, 0, 7))

    def test_upwards(self):
        for height, y in ((0, 0), (429, 0), (430, 0), (431, 1), (700, 270), (-5, 0), (LIMIT, LIMIT - 430)):
            self.accents((0, y, max(height, y + 70)), Box(38, height, 5, MARKS))

    def test_depth_of_the_accent(self):
        fonts = fonts_with({"xheight": 430}, glyphs={"hat": (30, 70, 9, 8, None, None)})
        told = accented(fonts, 0, 0, "hat", Box(38, 500, 5))
        self.assertEqual(told, Box(38, 500, 5, [glyph(0, 79, "hat", path=())]))
        told = accented(fonts, 0, 0, "hat", Box(38, 20, 5))
        self.assertEqual(told, Box(38, 79, 5, [glyph(0, 9, "hat", path=())]))

    def test_old_box(self):
        # The lesser one of 300 and 430 is left below, and 200 more of the higher box.
        self.accents((0, 0, 500), Box(90, 500, 5, MARKS), Box(38, 300, 99, [rule(9)]))
        self.accents((0, 70, 500), Box(90, 500, 5, MARKS), Box(38, 500, 99))
        self.accents((0, 170, 500), Box(90, 500, 5, MARKS), Box(38, 600, 99))
        self.accents((0, 1000 - 430, 640), Box(90, 500, 5, MARKS), Box(38, 1000, 99))

    def test_old_box_tells_the_width(self):
        fonts = fonts_with(glyphs=HATS)
        for width, name in ((0, "hat"), (-LIMIT, "hat"), (499, "hat"), (500, "wider"), (LIMIT, "wider")):
            for inner, old in ((Box(width, 0, 0), None), (Box(1, 0, 0), Box(width, 0, 0)), (Box(9999, 0, 0), Box(width, 0, 0))):
                told = accented(fonts, 0, 0, "hat", inner, old)
                self.assertEqual(told.marks[0][2][4], name)

    def test_slant_does_not_count_for_the_choice(self):
        fonts = fonts_with(glyphs={"hat": accent(3, "wide", slant=50), "wide": accent(5, slant=LIMIT)})
        self.assertEqual(accented(fonts, 0, 0, "hat", Box(5, 0, 0)).marks[0][2][4], "wide")
        self.assertEqual(accented(fonts, 0, 0, "hat", Box(4, 0, 0)).marks[0][2][4], "hat")

    def test_family_and_size(self):
        glyphs = {(family, size, "hat"): accent(10 * family + size, None, 1) for family in (0, 1) for size in range(3)}
        for style, size in enumerate(SIZES):
            fonts = fonts_with({("xheight", size): 60}, glyphs=glyphs)
            for family in (0, 1):
                told = accented(fonts, style, family, "hat", Box(100, 90, 0))
                x = (100 - 10 * family - size + 1) // 2
                self.assertEqual(told.marks, [glyph(x, 30, "hat", family, size, ())])

    def test_by_name(self):
        fonts = fonts_with(glyphs=HATS)
        inner, old = Box(5, 6, 7), Box(8, 9, 10)
        told = accented(skew=3, old_inner=old, inner=inner, name="hat", family=0, style=0, fonts=fonts)
        self.assertEqual(told, accented(fonts, 0, 0, "hat", inner, old, 3))
        self.assertEqual(accented(fonts, 0, 0, "hat", inner), accented(fonts, 0, 0, "hat", inner, None, 0))

    def test_great_numbers(self):
        fonts = fonts_with({"xheight": LIMIT}, glyphs={"hat": accent(LIMIT, None, LIMIT, LIMIT, LIMIT)})
        inner, old = Box(LIMIT, LIMIT, LIMIT), Box(-LIMIT, -LIMIT, -LIMIT)
        told = accented(fonts, 0, 0, "hat", inner, old, LIMIT)
        x = LIMIT - (3 * LIMIT) // 2
        self.assertEqual(told, Box(LIMIT, 2 * LIMIT, LIMIT, [glyph(x, LIMIT, "hat", path=())]))

    def test_facts(self):
        chance = random.Random(9)
        for _ in range(300):
            fonts = fonts_with({"xheight": chance.randrange(50)}, glyphs={
                "hat": accent(chance.randrange(9), "wide", 5, 3), "wide": accent(chance.randrange(9)),
            })
            xheight = fonts.number_at("xheight", 0)
            told = accented(fonts, 0, 0, "hat", Box(chance.randrange(9), chance.randrange(-9, xheight + 1), 0))
            _, y, mark = told.marks[0]
            self.assertEqual(y, fonts.glyph(0, 0, mark[4])[2])

    def test_other_numbers_do_not_matter(self):
        fonts = fonts_with({"xheight": 5, "axis": 6, "rule": 7}, glyphs=HATS)
        inner = Box(600, 50, 40, MARKS)
        for word in ("quad", "gap1", "sup1", "delim1"):
            other = fonts.changed(word, 0, 99)
            self.assertEqual(accented(other, 0, 0, "hat", inner), accented(fonts, 0, 0, "hat", inner))
            for function in (overlined, underlined, centered):
                self.assertEqual(function(other, 0, inner), function(fonts, 0, inner))
        for word in ("xheight", "axis", "rule"):
            for size in (1, 2):
                other = fonts.changed(word, size, 99)
                self.assertEqual(accented(other, 0, 0, "hat", inner), accented(fonts, 0, 0, "hat", inner))
                for function in (overlined, underlined, centered):
                    self.assertEqual(function(other, 0, inner), function(fonts, 0, inner))


class Kept(Case):

    def test_nothing_is_changed_or_kept(self):
        fonts = fonts_with(glyphs=HATS)
        inner, old = Box(1, 2, 3, MARKS), Box(4, 5, 6, MARKS)
        for function in (overlined, underlined, centered):
            function(fonts, 0, inner).marks.clear()
        accented(fonts, 0, 0, "hat", inner).marks.clear()
        accented(fonts, 0, 0, "hat", inner, old).marks.clear()
        self.assertEqual([inner, old], [Box(1, 2, 3, MARKS), Box(4, 5, 6, MARKS)])
        self.assertEqual(fonts, fonts_with(glyphs=HATS))


class WrongArguments(Case):

    def argument(self, name, values):
        return (name, values, InvalidArgument, {"part": name})

    def test_boxes(self):
        right = {"fonts": fonts_with(), "style": 7, "inner": Box(LIMIT, -LIMIT, LIMIT, MARKS)}
        for function in (overlined, underlined, centered):
            self.assertRefuses(function, right, [
                self.argument("fonts", no_fonts()), self.argument("style", no_styles()),
                self.argument("inner", no_boxes()),
            ])

    def names(self):
        return [None, 0, "", "A", "abcdefghi", "a b", ("a",)] + odd_values()

    def families(self):
        return [2, 3, -1, None, LIMIT] + odd_values()

    def no_glyph(self, family, name):
        return ("name", [name], NoGlyph, {"family": family, "name": name})

    def test_accent_steps(self):
        right = {"fonts": fonts_with(glyphs={**HATS, (0, 0, "low"): accent(1)}), "family": 1, "size": 2, "name": "hat"}
        self.assertRefuses(accent_steps, right, [
            self.argument("fonts", no_fonts()), self.argument("family", self.families()),
            self.argument("size", no_sizes()), self.argument("name", self.names()),
        ])
        self.assertRefuses(accent_steps, right, [self.no_glyph(1, "low")])
        self.assertRefuses(accent_steps, right, [self.no_glyph(1, "zz")])

    def test_accented(self):
        right = {
            "fonts": fonts_with(glyphs={**HATS, (0, 0, "low"): accent(1)}), "style": 7, "family": 1, "name": "hat",
            "inner": Box(1, 2, 3), "old_inner": Box(LIMIT, LIMIT, LIMIT), "skew": LIMIT,
        }
        first = [
            self.argument("fonts", no_fonts()), self.argument("style", no_styles()),
            self.argument("family", self.families()), self.argument("name", self.names()),
        ]
        boxes = no_boxes()
        last = [
            self.argument("inner", [None] + boxes), self.argument("old_inner", [value for value in boxes if value is not None]),
            self.argument("skew", no_signed()),
        ]
        self.assertRefuses(accented, right, first + last)
        self.assertRefuses(accented, {**right, "old_inner": None, "skew": -LIMIT}, last)
        self.assertRefuses(accented, right, [self.no_glyph(1, "low")] + last)
        self.assertRefuses(accented, {**right, "family": 0}, [self.no_glyph(0, "zz")] + last)


if __name__ == "__main__":
    unittest.main()
