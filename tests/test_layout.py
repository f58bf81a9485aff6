"""Whole formulas (points 30 to 35, and what points 23 to 55 say of formulas)."""

import copy
import random
import unittest

from mathboxes.accents import accented
from mathboxes.boxes import Box, beside
from mathboxes.delimiters import fence_least, grown
from mathboxes.errors import InvalidArgument, InvalidFormula, NoGlyph
from mathboxes.formulas import check_formula
from mathboxes.layout import layout, parts_of
from mathboxes.lists import arranged
from mathboxes.scripts import scripted
from tests.chance import Maker, chance_fonts
from tests.samples import LIMIT, Case, fonts_with, glyph, nest, no_fonts, no_styles, odd_values, rule, symbol
from tests.slowly import Slowly

STYLES = range(8)
SIZES = (0, 0, 0, 0, 1, 1, 2, 2)
SUP = (4, 5, 4, 5, 6, 7, 6, 7)
SUB = (5, 5, 5, 5, 7, 7, 7, 7)
NUM = (2, 3, 4, 5, 6, 7, 6, 7)
DEN = (3, 3, 5, 5, 7, 7, 7, 7)
KERN = ("kern", 5, "units")
CHOICE = ("choice", *[[("kern", 10 ** at, "units")] for at in range(4)])


def letter(family, size, at):
    """A glyph whose numbers tell where it comes from."""
    base = 1000 * family + 100 * size + 10 * at
    return (base + 1, base + 2, base + 3, base + 4, None, None)


GLYPHS = {(family, size, name): letter(family, size, at)
          for family in (0, 1) for size in range(3) for at, name in enumerate("abcd")}
NUMBERS = {("quad", 0): 1800, ("quad", 1): 1000, ("quad", 2): 500, "sup1": 9, "sup2": 8, "sup3": 7, "sub1": 30}
SETTINGS = {"thin": 3, "medium": 4, "thick": 5, "scriptspace": 11, "empty": 6, "factor": 901, "short": 50}


def some_fonts(pairs=(), numbers=()):
    return fonts_with({**NUMBERS, **dict(numbers)}, SETTINGS, GLYPHS, pairs)


def no_marks(box):
    return (box.width, box.height, box.depth)


class Symbols(Case):

    def test_glyph_of_family_and_size(self):
        for style, size in enumerate(SIZES):
            for family in (0, 1):
                width, height, depth, slant = letter(family, size, 1)[:4]
                told = layout(some_fonts(), [symbol("b", family=family)], style)
                self.assertEqual(told, Box(width + slant, height, depth, [glyph(0, 0, "b", family, size)]))

    def test_slant(self):
        fonts = some_fonts()
        width, height, depth, slant = letter(0, 0, 0)[:4]
        mark = glyph()
        with_slant, without = Box(width + slant, height, depth, [mark]), Box(width, height, depth, [mark])
        script = [KERN]
        kern = Box(5, 0, 0)
        for style in range(4):
            told = layout(fonts, [symbol("a", script)], style)
            self.assertEqual(told, scripted(fonts, style, with_slant, True, 0, kern, None))
            told = layout(fonts, [symbol("a", None, script)], style)
            self.assertEqual(told, scripted(fonts, style, without, True, slant, None, kern))
            told = layout(fonts, [symbol("a", script, script)], style)
            self.assertEqual(told, scripted(fonts, style, without, True, slant, kern, kern))
            self.assertEqual(told.width, width + slant + 5 + 11)

    def spaced_fonts(self):
        fonts = some_fonts({("a", "b"): ("kern", 7), ("a", "c"): ("join", "d"), ("d", "b"): ("kern", -3)})
        return fonts, chance_of(fonts, spaced=True)

    def test_text_symbols(self):
        plain, spaced = self.spaced_fonts()
        slants = [letter(0, 0, at)[3] for at in range(4)]
        rows = [
            ([symbol("a"), symbol("b")], [0, slants[1]]),
            ([symbol("a"), KERN, symbol("b")], [slants[0], 0, slants[1]]),
            ([symbol("a"), symbol("c"), symbol("b")], [0, slants[1]]),
            ([symbol("a"), symbol("c")], [slants[3]]),
            ([symbol("b"), symbol("a", family=1)], [slants[1], letter(1, 0, 0)[3]]),
            ([symbol("b"), symbol("a", kind="rel")], [0, slants[0]]),
            ([symbol("b", kind="rel"), symbol("a")], [slants[1], slants[0]]),
        ]
        for row, expected in rows:
            for fonts in (plain, spaced):
                told = parts_of(fonts, row, 2)
                for (path, _, _, box), slant, entry in zip(told, expected, arranged(fonts, row, 2)):
                    if not box.marks:
                        continue
                    _, _, (_, _, family, size, name) = box.marks[0]
                    own = fonts.glyph(family, size, name)
                    there = slant if fonts is spaced else own[3]
                    self.assertEqual(box.width, own[0] + there + entry[4], (row, path))


def chance_of(fonts, spaced):
    """The same fonts with faces that are spaced."""
    from mathboxes.fonts import Fonts
    families = [tuple((glyphs, pairs, spaced) for glyphs, pairs, _ in family) for family in fonts._families]
    return Fonts(families, tuple(fonts._numbers), fonts._settings, skew=fonts._skew)


class Rows(Case):

    def test_empty(self):
        for style in STYLES:
            for formula in ([], [("style", 4)], [("choice", [], [], [], [])]):
                self.assertEqual(layout(some_fonts(), formula, style), Box(0, 0, 0))
                self.assertEqual(parts_of(some_fonts(), formula, style), [])

    def test_kerns(self):
        for style, size in enumerate(SIZES):
            quad = (1800, 1000, 500)[size]
            for number in (0, 1, 17, -1, -17, 18, LIMIT, -LIMIT):
                told = layout(some_fonts(), [("kern", number, "units")], style)
                self.assertEqual(told, Box(number, 0, 0))
                told = layout(some_fonts(), [("kern", number, "mu")], style)
                self.assertEqual(told, Box(number * quad // 18, 0, 0))
        self.assertEqual(layout(some_fonts(), [("style", 6), ("kern", 18, "mu")], 0).width, 500)

    def test_kerns_go_back(self):
        wide = letter(0, 0, 0)[0] + letter(0, 0, 0)[3]
        told = layout(some_fonts(), [symbol(), ("kern", -700, "units"), symbol()], 0)
        self.assertEqual([mark[0] for mark in told.marks], [0, wide - 700])
        self.assertEqual(told.width, 2 * wide - 700)

    def test_spaces_and_pairs(self):
        fonts = some_fonts({("a", "b"): ("kern", 40), ("b", "c"): ("kern", -50)})
        row = [symbol("a"), symbol("b"), symbol("c", kind="rel"), ("style", 4), symbol("d"), symbol("b", kind="bin"), symbol("d")]
        entries = arranged(fonts, row, 2)
        self.assertEqual([entry[3:] for entry in entries], [(0, 40), (0, -50), (500, 0), (0, 0), (0, 0), (0, 0)])
        told = layout(fonts, row, 2)
        places, x = [], 0
        for (_, _, style, space, behind), name in zip(entries, "abcdbd"):
            own = fonts.glyph(0, SIZES[style], name)
            places.append(x + space)
            x += space + own[0] + own[3] + behind
        self.assertEqual([mark[0] for mark in told.marks], places)
        self.assertEqual(told.width, x)

    def test_parts(self):
        fonts = some_fonts({("a", "b"): ("kern", 40), ("b", "c"): ("kern", -9999)})
        row = [symbol("a"), symbol("b"), symbol("c", kind="rel"), KERN, ("list", "bin", [], None, None)]
        told = parts_of(fonts, row, 2)
        boxes = []
        for at, (width, height, depth, slant) in enumerate([letter(0, 0, at)[:4] for at in range(3)]):
            boxes.append(Box(width + slant + (40, -9999, 0)[at], height, depth, [glyph(0, 0, "abc"[at], path=(at,))]))
        boxes.extend([Box(5, 0, 0), Box(0, 0, 0)])
        expected = [((0,), "ord", 0), ((1,), "ord", 0), ((2,), "rel", 500), ((3,), None, 0), ((4,), "ord", 500)]
        self.assertEqual(told, [(*entry, box) for entry, box in zip(expected, boxes)])
        self.assertEqual(parts_of(style=2, formula=row, fonts=fonts), told)

    def test_parts_are_never_lower_than_nothing(self):
        item = ("center", [("kern", 1, "units")], None, None)
        fonts = some_fonts(numbers={"axis": 50})
        self.assertEqual(layout(fonts, [item], 0), Box(1, 50, 0))
        self.assertEqual(parts_of(fonts, [item], 0), [((0,), "ord", 0, Box(1, 50, 0))])

    def test_parts_side_by_side_are_the_layout(self):
        chance = random.Random(1)
        for _ in range(60):
            fonts, formula, style = chance_fonts(chance), Maker(chance).formula(), chance.randrange(8)
            boxes = []
            for _, _, space, box in parts_of(fonts, formula, style):
                boxes.extend([Box(space, 0, 0), box])
            self.assertEqual(beside(boxes), layout(fonts, formula, style))


class Styles(Case):
    """The styles in which the formulas of items are laid out; CHOICE tells them by its width."""

    def widths(self, item, styles_of, extra=0):
        for style in STYLES:
            told = layout(some_fonts(), [item], style)
            self.assertEqual(told.width - extra, 10 ** (styles_of(style) // 2), (item, style))

    def test_own_style(self):
        inner = [CHOICE]
        for item in (
            ("list", "rel", inner, None, None), ("under", inner, None, None), ("center", inner, None, None),
            ("operator", "never", inner, None, None), ("operator", "always", inner, None, None),
            ("table", "c", [[inner]], None, None), ("over", inner, None, None), ("accent", 0, "a", inner, None, None),
        ):
            self.widths(item, lambda style: style)
        self.widths(("fence", None, inner, None, None, None), lambda style: style, 12)
        self.widths(("root", None, inner, None, None), lambda style: style, 6)

    def test_parts_in_their_styles(self):
        for style in STYLES:
            told = layout(some_fonts(), [("list", "ord", [], [CHOICE], None)], style)
            self.assertEqual(told.width, 10 ** (SUP[style] // 2) + 11)
            told = layout(some_fonts(), [("list", "ord", [], None, [CHOICE])], style)
            self.assertEqual(told.width, 10 ** (SUB[style] // 2) + 11)
            told = layout(some_fonts(), [("fraction", [CHOICE], [], None, None, None)], style)
            self.assertEqual(told.width, 10 ** (NUM[style] // 2) + 12)
            told = layout(some_fonts(), [("fraction", [], [CHOICE], None, None, None)], style)
            self.assertEqual(told.width, 10 ** (DEN[style] // 2) + 12)

    def test_cramped(self):
        # The rise of a sup tells it.
        probe = [("list", "ord", [], [("kern", 1, "units")], None)]
        always = [
            ("over", probe, None, None), ("root", None, probe, None, None), ("accent", 0, "a", probe, None, None),
        ]
        own = [
            ("list", "ord", probe, None, None), ("under", probe, None, None),
            ("operator", "display", probe, None, None), ("fence", None, probe, None, None, None),
        ]
        fonts = fonts_with({"sup1": 10 ** 6, "sup2": 10 ** 6, "sup3": 2 * 10 ** 6}, {}, GLYPHS)
        for style in STYLES:
            lone = [layout(fonts, probe, odd).height for odd in (0, 1)]
            self.assertEqual(lone, [10 ** 6, 2 * 10 ** 6])
            for item in always:
                self.assertGreaterEqual(layout(fonts, [item], style).height, 2 * 10 ** 6, item)
            for item in own:
                self.assertEqual(layout(fonts, [item], style).height >= 2 * 10 ** 6, style % 2 == 1, item)
            # Their middles stand on the axis.
            for item in (("center", probe, None, None), ("table", "l", [[probe]], None, None)):
                told = layout(fonts, [item], style)
                self.assertEqual(told.height + told.depth, 2 * 10 ** 6 if style % 2 else 10 ** 6, item)

    def test_six_deep(self):
        formula = nest(6, [symbol()])
        self.assertEqual(layout(some_fonts(), formula, 0).marks, [glyph(path=(0, 2, 0, 2, 0, 2, 0, 2, 0, 2, 0))])
        scripts = [symbol()]
        for _ in range(5):
            scripts = [symbol("a", scripts)]
        told = layout(some_fonts(), scripts, 0)
        self.assertEqual([mark[2][3] for mark in told.marks], [0, 1, 2, 2, 2, 2])


class Atoms(Case):

    def test_a_list_is_a_box(self):
        fonts = some_fonts(numbers={"supdrop": 0, "subdrop": 0})
        width, height, depth, slant = letter(0, 0, 0)[:4]
        for scripts in (([KERN], None), (None, [KERN]), ([KERN], [KERN])):
            told = layout(fonts, [("list", "ord", [symbol()], *scripts)], 0)
            nucleus = Box(width + slant, height, depth, [glyph(path=(0, 2, 0))])
            kerns = [script and Box(5, 0, 0) for script in scripts]
            self.assertEqual(told, scripted(fonts, 0, nucleus, False, 0, *kerns))

    def test_without_scripts_boxes_stay(self):
        fonts = some_fonts(numbers={"axis": 50})
        inner = [("center", [KERN], None, None)]
        told = layout(fonts, [("center", inner, None, None)], 0)
        # What is centered is 0 deep: the row within it makes it so.
        self.assertEqual(no_marks(told), (5, 75, 0))
        with_script = layout(fonts, [("center", inner, [], None)], 0)
        self.assertEqual(no_marks(with_script), (16, 75, 0))

    def test_paths_of_scripts_that_passed_over(self):
        fonts = some_fonts({("a", "b"): ("join", "c"), ("c", "d"): ("join", "a")})
        row = [KERN, symbol("a"), symbol("b"), symbol("d", [symbol("b")], [symbol("c")])]
        told = layout(fonts, row, 0)
        self.assertEqual([mark[2][1] for mark in told.marks], [(1,), (3, 4, 0), (3, 5, 0)])
        self.assertEqual([mark[2][4] for mark in told.marks], ["a", "b", "c"])
        self.assertEqual([entry[0] for entry in parts_of(fonts, row, 0)], [(0,), (1,)])

    def test_paths_and_order_of_marks(self):
        glyphs = {**GLYPHS, "p": (9, 50, 50, 0, None, None)}
        fonts = fonts_with({"rule": 10}, SETTINGS, glyphs)
        p = (0, "p", 0, "p")
        a = [symbol()]
        g = "glyph"
        rows = [
            (("list", "ord", a, a, a), [(g, (0, 2, 0)), (g, (0, 3, 0)), (g, (0, 4, 0))]),
            (("over", a, a, a), [(g, (0, 1, 0)), ("rule", (0,)), (g, (0, 2, 0)), (g, (0, 3, 0))]),
            (("under", a, a, a), [(g, (0, 1, 0)), ("rule", (0,)), (g, (0, 2, 0)), (g, (0, 3, 0))]),
            (("center", a, a, a), [(g, (0, 1, 0)), (g, (0, 2, 0)), (g, (0, 3, 0))]),
            (("root", p, a, a, a), [(g, (0,)), (g, (0, 2, 0)), ("rule", (0,)), (g, (0, 3, 0)), (g, (0, 4, 0))]),
            (("accent", 0, "b", a, a, a), [(g, (0, 3, 0)), (g, (0, 4, 0)), (g, (0, 5, 0)), (g, (0,))]),
            (("accent", 0, "b", [symbol("a", a)], a, a),
             [(g, (0, 3, 0)), (g, (0, 3, 0, 4, 0)), (g, (0,)), (g, (0, 4, 0)), (g, (0, 5, 0))]),
            (("operator", "always", a, a, a), [(g, (0, 2, 0)), (g, (0, 3, 0)), (g, (0, 4, 0))]),
            (("fence", p, a + [("middle", p)] + a, p, a, a),
             [(g, (0,)), (g, (0, 2, 0)), (g, (0, 2, 1)), (g, (0, 2, 2)), (g, (0,)), (g, (0, 4, 0)), (g, (0, 5, 0))]),
            (("fraction", a, a, None, p, p), [(g, (0,)), (g, (0, 1, 0)), (g, (0, 2, 0)), ("rule", (0,)), (g, (0,))]),
            (("table", "|l", ["rule", [a]], a, a),
             [(g, (0, 2, 1, 0, 0)), ("rule", (0,)), ("rule", (0,)), (g, (0, 3, 0)), (g, (0, 4, 0))]),
            (("choice", [], a, [], []), [(g, (0, 2, 0))]),
        ]
        for item, expected in rows:
            told = layout(fonts, [item], 2)
            self.assertEqual([mark[2][:2] for mark in told.marks], expected, item[0])


class Accents(Case):

    def setUp(self):
        glyphs = {**GLYPHS, "hat": (20, 30, 4, 5, "wide", None), "wide": (90, 35, 4, 5, None, None)}
        numbers = {**NUMBERS, "xheight": 3}
        pairs = {(0, 0, "a", "d"): ("kern", 17), ("b", "d"): ("join", "c"), (1, 1, "a", "d"): ("kern", -40), ("d", "a"): ("kern", 99)}
        plain = fonts_with(numbers, SETTINGS, glyphs, pairs)
        from mathboxes.fonts import Fonts
        self.fonts = Fonts(plain._families, tuple(plain._numbers), plain._settings, skew="d")
        self.plain = plain

    def accent(self, fonts, style, inner, old, skew):
        told = accented(fonts, style, 0, "hat", inner, old, skew)
        return Box(told.width, told.height, told.depth, [(x, y, (mark[0], mark[1] or (0,), *mark[2:])) for x, y, mark in told.marks])

    def lone(self, family, size, name, with_slant=True):
        width, height, depth, slant = letter(family, size, "abcd".index(name))[:4]
        return Box(width + slant * with_slant, height, depth, [glyph(0, 0, name, family, size, (0, 3, 0))]), slant

    def test_skew(self):
        for style, size in enumerate(SIZES):
            for family, name, kern in ((0, "a", {0: 17}), (1, "a", {1: -40}), (0, "b", {}), (0, "c", {}), (0, "d", {})):
                formula = [("accent", 0, "hat", [symbol(name, family=family)], None, None)]
                inner, _ = self.lone(family, size, name)
                told = layout(self.fonts, formula, style)
                self.assertEqual(told, self.accent(self.fonts, style, inner, None, kern.get(size, 0)))
                told = layout(self.plain, formula, style)
                self.assertEqual(told, self.accent(self.plain, style, inner, None, 0))

    def test_scripts_of_a_lone_symbol(self):
        for style, size in enumerate(SIZES):
            for sup, sub in (([KERN], None), (None, [KERN]), ([KERN], [KERN]), ([], None)):
                old, slant = self.lone(0, size, "a")
                nucleus = old if sub is None else self.lone(0, size, "a", False)[0]
                boxes = [script if script is None else Box(5 * len(script), 0, 0) for script in (sup, sub)]
                inner = scripted(self.fonts, style, nucleus, True, 0 if sub is None else slant, *boxes)
                told = layout(self.fonts, [("accent", 0, "hat", [symbol("a")], sup, sub)], style)
                self.assertEqual(told, self.accent(self.fonts, style, inner, old, 17 if size == 0 else 0))

    def test_scripts_of_others(self):
        for inner in ([symbol("a", [KERN])], [("style", 0), symbol("a")], [symbol("a"), KERN], [], [("choice", *[[symbol("a")]] * 4)]):
            for style in STYLES:
                box = Slowly(self.fonts).layout(inner, style | 1, (0, 3))
                part = self.accent(self.fonts, style, box, None, 0)
                told = layout(self.fonts, [("accent", 0, "hat", inner, [KERN], [KERN])], style)
                self.assertEqual(told, scripted(self.fonts, style, part, False, 0, Box(5, 0, 0), Box(5, 0, 0)))


class Fences(Case):

    def setUp(self):
        tall = {"p": (9, 50, 50, 0, "pp", None), "pp": (9, 500, 500, 0, "ppp", None), "ppp": (9, 5000, 5000, 0, None, None)}
        self.fonts = fonts_with({**NUMBERS, "axis": 20, "rule": 3}, SETTINGS, {**GLYPHS, **tall})

    p = (0, "p", 0, "p")

    def test_space_ahead_of_the_right_one(self):
        rows = [
            ([symbol(kind="punct")], 3 * 1800 // 18), ([symbol(kind="punct"), KERN], 3 * 1800 // 18),
            ([symbol(kind="punct"), ("middle", None)], 0), ([symbol(kind="punct"), ("middle", None), KERN], 0),
            ([symbol()], 0), ([], 0), ([KERN], 0), ([("middle", None)], 0), ([("middle", None), symbol(kind="punct")], 300),
            ([("style", 4), symbol(kind="punct")], 300),
        ]
        for row, room in rows:
            told = layout(self.fonts, [("fence", None, row, None, None, None)], 2)
            entries = Slowly(self.fonts).entries(row, 2, (0, 2))
            wide = sum(place.ahead + (6 if box is None else box.width) + place.behind for place, box in entries)
            self.assertEqual(told.width, 12 + wide + room, row)
        # In scripts there is none, whatever style the punctuation has.
        for style in range(4, 8):
            told = layout(self.fonts, [("fence", None, [("style", 0), symbol(kind="punct")], None, None, None)], style)
            self.assertEqual(told.width, 12 + 1 + 4)

    def test_space_ahead_of_a_middle(self):
        told = layout(self.fonts, [("fence", self.p, [symbol(kind="punct"), ("middle", self.p), symbol(kind="bin")], None, None, None)], 2)
        self.assertEqual([mark[0] for mark in told.marks], [0, 9, 9 + 5 + 300, 9 + 5 + 300 + 9])

    def test_all_grow_alike(self):
        for deep in (0, 90, 91, 400, 2000):
            row = [("under", [symbol()], None, None), ("middle", self.p), ("list", "ord", [symbol()], None, None)]
            tall = fonts_with({"axis": 20, "rule": deep // 5}, SETTINGS, {**GLYPHS, "p": (9, 50, 50, 0, "pp", None), "pp": (9, 500, 500, 0, "ppp", None), "ppp": (9, 5000, 5000, 0, None, None)})
            told = layout(tall, [("fence", self.p, row, self.p, None, None)], 2)
            names = {mark[2][4] for mark in told.marks if mark[2][0] == "glyph" and mark[2][4] != "a"}
            least = fence_least(tall, 0, 2, 3 + 5 * (deep // 5))
            self.assertEqual(names, {grown(tall, 0, self.p, least).marks[0][2][4]})

    def test_middles_do_not_count(self):
        row = [("middle", (0, "ppp", 0, "ppp")), symbol()]
        told = layout(self.fonts, [("fence", self.p, row, self.p, None, None)], 2)
        self.assertEqual([mark[2][4] for mark in told.marks], ["p", "ppp", "a", "p"])

    def test_at_least_nothing(self):
        for row in ([], [KERN], [("list", "ord", [], None, None)], [("middle", self.p)]):
            told = layout(self.fonts, [("fence", self.p, row, None, None, None)], 2)
            least = max(0, fence_least(self.fonts, 0, 0, 0))
            self.assertEqual(told.marks[0][2][4], grown(self.fonts, 0, self.p, least).marks[0][2][4])

    def test_the_style_of_the_fence(self):
        row = [("style", 6), ("middle", self.p), symbol()]
        for style, size in enumerate(SIZES):
            told = layout(self.fonts, [("fence", self.p, row, self.p, None, None)], style)
            self.assertEqual([mark[2][3] for mark in told.marks], [size, size, 2, size])
            self.assertEqual([mark[2][1] for mark in told.marks], [(0,), (0, 2, 1), (0, 2, 2), (0,)])

    def test_what_lacks(self):
        for delimiter in (None, (3, "p", 2, "p"), (0, "zz", 0, "yy")):
            told = layout(self.fonts, [("fence", delimiter, [("middle", delimiter)], delimiter, None, None)], 0)
            self.assertEqual(told, Box(18, 0, 0))


class NoGlyphs(Case):

    def test_symbols_and_accents(self):
        fonts = fonts_with(NUMBERS, SETTINGS, {**GLYPHS, (0, 1, "low"): (1, 1, 1, 1, None, None)})
        for family, name in ((0, "zz"), (2, "a"), (3, "a"), (1, "low"), (0, "low")):
            told = {"family": family, "name": name}
            for style in (0, 3, 6):
                for formula in (
                    [symbol(name, family=family)], [("accent", family, name, [], None, None)],
                    [("accent", 0, "a", [symbol(name, family=family)], [], None)],
                    [("operator", "always", [symbol(name, family=family)], None, None)],
                    [("table", "l", [[[symbol(name, family=family)]]], None, None)],
                    [("fraction", [], [("style", 0), symbol(name, family=family)], None, None, None)],
                    [("list", "ord", [], None, [("style", 0), symbol(name, family=family)])],
                ):
                    for function in (layout, parts_of):
                        self.assertTells(NoGlyph, told, function, fonts, formula, style)
        self.assertEqual(layout(fonts, [symbol("low")], 4).width, 2)

    def test_what_is_not_laid_out(self):
        fonts = some_fonts()
        lacking = [symbol("zz", [symbol("zz")])]
        self.assertEqual(layout(fonts, [("choice", lacking, [], lacking, lacking)], 3), Box(0, 0, 0))
        lacks = (3, "zz", 3, "zz")
        formula = [("root", lacks, [], None, None), ("fence", lacks, [("middle", lacks)], lacks, None, None), ("fraction", [], [], 0, lacks, lacks)]
        self.assertEqual(layout(fonts, formula, 4).width, 6 + 18 + 12)


class AtRandom(Case):

    def test_as_the_points_tell(self):
        chance = random.Random(31)
        for _ in range(120):
            fonts = chance_fonts(chance)
            slow = Slowly(fonts)
            for _ in range(2):
                formula = Maker(chance, 50).formula()
                check_formula(formula)
                for style in STYLES:
                    self.assertEqual(layout(fonts, formula, style), slow.layout(formula, style), (formula, style))
                style = chance.randrange(8)
                self.assertEqual(parts_of(fonts, formula, style), slow.parts_of(formula, style), (formula, style))

    def test_nothing_is_changed_or_kept(self):
        chance = random.Random(32)
        for _ in range(30):
            fonts, formula = chance_fonts(chance), Maker(chance).formula()
            other = copy.deepcopy(fonts)
            told = self.assertLeaves(lambda given: layout(fonts, given, 0).marks, formula)
            told.clear()
            for entry in parts_of(fonts, formula, 0):
                entry[3].marks.clear()
            self.assertEqual(layout(fonts, formula, 0), layout(other, formula, 0))
            self.assertEqual(fonts, other)

    def test_great_numbers(self):
        chance = random.Random(33)
        for _ in range(60):
            fonts, formula, style = chance_fonts(chance, 10 ** 50), Maker(chance).formula(), chance.randrange(8)
            self.assertEqual(layout(fonts, formula, style), Slowly(fonts).layout(formula, style))


class WrongArguments(Case):

    def test_in_order(self):
        wrong = [value for value in [None, 0, (), (KERN,)] + odd_values() if value != []]
        right = {"fonts": some_fonts(), "formula": nest(6, [KERN]), "style": 7}
        rows = [
            ((), [value for value in wrong if not isinstance(value, list)] + [[KERN] * 201]),
            ((0,), [[value] for value in wrong] + [[("middle", None)]]),
            ((1,), [[symbol("zz"), symbol("A")], [KERN, symbol(kind="op")], [KERN, ("style", True), 0]]),
            ((0, 4, 0), [[symbol(sup=[("middle", None)])]]),
            ((0, 2, 0, 2, 0, 2, 0, 2, 0, 2, 0, 2), [nest(7)]),
        ]
        for function in (layout, parts_of):
            for path, formulas in rows:
                self.assertRefuses(function, right, [
                    ("fonts", no_fonts(), InvalidArgument, {"part": "fonts"}),
                    ("formula", formulas, InvalidFormula, {"path": path}),
                    ("style", no_styles(), InvalidArgument, {"part": "style"}),
                ])
            self.assertTells(InvalidArgument, {"part": "style"}, function, some_fonts(), [symbol("zz")], 8)
        self.assertEqual(layout(style=7, formula=[], fonts=some_fonts()), Box(0, 0, 0))


if __name__ == "__main__":
    unittest.main()
