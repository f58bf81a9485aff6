"""The examples of the document, word for word."""

import doctest
import unittest

from mathboxes.accents import accent_steps, accented, centered, overlined
from mathboxes.boxes import Box
from mathboxes.effects import felt_numbers, idle_paths, replaced_marks
from mathboxes.lines import line_costs
from mathboxes.operators import limit_rooms, limit_shifts, limited, operator_symbol
from mathboxes.scripts import rooms, ruling, shifts
from mathboxes.tables import table_grid
from tests.samples import fonts_with, symbol

FONTS = '''
    >>> from mathboxes.fonts import Fonts
    >>> words = "xheight quad up1 up2 up3 down1 down2 sup1 sup2 sup3 sub1 sub2 supdrop subdrop delim1 delim2 axis rule".split()
    >>> words = words + "gap1 gap2 gap3 gap4 gap5".split()
    >>> numbers = dict.fromkeys(words, 100)
    >>> settings = dict.fromkeys("scriptspace factor short empty thin medium thick baseline apart column indent".split(), 3)
    >>> face = ({"a": (500, 400, 0, 20, None, None), "plus": (700, 600, 80, 0, None, None)}, {}, False)
    >>> fonts = Fonts([(face, face, face)], (numbers, numbers, numbers), settings)
    >>> [fonts.glyph(0, 2, "plus"), fonts.chain(0, 0, "a"), fonts.changed("axis", 1, 7).number_at("axis", 1)]
    [(700, 600, 80, 0, None, None), ['a'], 7]
'''

BOXES = '''
    >>> from mathboxes.boxes import Box, beside, widened
    >>> beside([Box(3, 2, 1), Box(4, -1, 5)]) == Box(7, 2, 5)
    True
    >>> widened(Box(3, 2, 1, [(0, 0, ("rule", (0,), 3, 1))]), 8).marks
    [(2, 0, ('rule', (0,), 3, 1))]
'''

FORMULAS = '''
    >>> from mathboxes.formulas import depth_of, paths, symbols
    >>> f = [("symbol", "ord", 0, "x", [("symbol", "ord", 0, "b", None, None)], None), ("fraction", [], [("kern", 2, "mu")], None, None, (1, "p", 2, "q"))]
    >>> paths(f)
    [(0,), (0, 4, 0), (1,), (1, 2, 0)]
    >>> (depth_of(f), symbols(f))
    (2, [((0,), 0, 'x'), ((0, 4, 0), 0, 'b'), ((1,), 1, 'p'), ((1,), 2, 'q')])
'''

LAYOUT = '''
    >>> from mathboxes.fonts import Fonts
    >>> from mathboxes.layout import layout
    >>> from mathboxes.lists import arranged
    >>> words = "xheight quad up1 up2 up3 down1 down2 sup1 sup2 sup3 sub1 sub2 supdrop subdrop delim1 delim2 axis rule".split()
    >>> words = words + "gap1 gap2 gap3 gap4 gap5".split()
    >>> numbers = dict.fromkeys(words, 100)
    >>> settings = dict.fromkeys("scriptspace factor short empty thin medium thick baseline apart column indent".split(), 3)
    >>> face = ({"a": (500, 400, 0, 20, None, None), "plus": (700, 600, 80, 0, None, None)}, {}, False)
    >>> fonts = Fonts([(face, face, face)], (numbers, numbers, numbers), settings)
    >>> a, p = ("symbol", "ord", 0, "a", None, None), ("symbol", "bin", 0, "plus", None, None)
    >>> box = layout(fonts, [a, p, a], 2)
    >>> [box.width, box.height, box.depth, box.marks[1]]
    [1772, 600, 80, (536, 0, ('glyph', (1,), 0, 0, 'plus'))]
    >>> [arranged(fonts, [p, a], 2), arranged(fonts, [a, p, a], 4)[1]]
    [[((0,), 'ord', 2, 0, 0), ((1,), 'ord', 2, 0, 0)], ((1,), 'bin', 4, 0, 0)]
'''


class Examples(unittest.TestCase):

    def run_example(self, text, many):
        test = doctest.DocTestParser().get_doctest(text, {}, "example", None, None)
        said = []
        result = doctest.DocTestRunner(verbose=False).run(test, out=said.append)
        self.assertEqual((result.failed, result.attempted), (0, many), "".join(said))

    def test_fonts(self):
        self.run_example(FONTS, 8)

    def test_boxes(self):
        self.run_example(BOXES, 3)

    def test_formulas(self):
        self.run_example(FORMULAS, 4)

    def test_layout(self):
        self.run_example(LAYOUT, 13)


class ToldExamples(unittest.TestCase):
    """The examples that the document tells in words."""

    def setUp(self):
        numbers = {
            ("xheight", 0): 430, ("rule", 0): 40, ("sup1", 0): 410, ("sup2", 0): 360, ("sup3", 0): 290,
            ("sub1", 0): 150, ("sub2", 0): 250, ("supdrop", 1): 390, ("subdrop", 1): 50,
        }
        self.fonts = fonts_with(numbers, {"scriptspace": 50})

    def test_shifts(self):
        nucleus = Box(0, 0, 0)
        self.assertEqual(shifts(self.fonts, 0, nucleus, True, Box(300, 300, 0), Box(300, 300, 0)), (410, 250))
        self.assertEqual(shifts(self.fonts, 0, nucleus, True, Box(300, 300, 200), Box(300, 500, 0)), (544, 316))

    def test_ruling(self):
        told = ruling(self.fonts, 0, Box(0, 0, 0), True, Box(300, 300, 200), Box(300, 500, 0))
        self.assertEqual(told, ("font", "font", "lift"))

    def test_rooms(self):
        nucleus, sub = Box(0, 0, 0), Box(300, 300, 0)
        self.assertEqual(rooms(self.fonts, 0, nucleus, True, Box(300, 300, 0), sub), (200, 200))
        rise, fall = shifts(self.fonts, 0, nucleus, True, Box(300, 300, 200), sub)
        self.assertEqual((rise, fall, rise - 201 - (300 - fall)), (410, 250, 159))

    def test_overlined(self):
        told = overlined(fonts_with({"rule": 40}), 0, Box(500, 300, 100))
        self.assertEqual(told, Box(500, 500, 100, [(0, 420, ("rule", (), 500, 40))]))

    def test_centered(self):
        told = centered(fonts_with({"axis": 250}), 0, Box(500, 300, 101, [(0, 0, ("rule", (3,), 1, 1))]))
        self.assertEqual(told, Box(500, 451, -50, [(0, 151, ("rule", (3,), 1, 1))]))

    def test_accent_steps(self):
        fonts = fonts_with(glyphs={
            "hat": (300, 0, 0, 0, "wide", None), "wide": (500, 0, 0, 0, "wider", None), "wider": (400, 0, 0, 0, None, None),
        })
        self.assertEqual(accent_steps(fonts, 0, 0, "hat"), [(0, "hat"), (500, "wider")])

    def test_accented(self):
        fonts = fonts_with({"xheight": 430}, glyphs={"hat": (300, 700, 0, 0, None, None)})
        told = accented(fonts, 0, 0, "hat", Box(500, 700, 0))
        self.assertEqual(told, Box(500, 970, 0, [(100, 270, ("glyph", (), 0, 0, "hat"))]))

    def test_operator_symbol(self):
        glyphs = {"a": (1000, 750, 250, 0, None, None), "b": (1000, 700, 101, 0, None, None)}
        fonts = fonts_with({"axis": 250}, glyphs=glyphs)
        box, _ = operator_symbol(fonts, 2, 0, "a", False)
        self.assertEqual((box.height, box.depth, box.marks[0][1]), (750, 250, 0))
        box, _ = operator_symbol(fonts, 2, 0, "b", False)
        self.assertEqual((box.height, box.depth, box.marks[0][1]), (650, 151, -50))

    def test_limits(self):
        fonts = fonts_with({"gap1": 100, "gap3": 200, "gap5": 50})
        nucleus, sup = Box(600, 500, 300), Box(800, 400, 30)
        self.assertEqual(limit_shifts(fonts, 0, nucleus, sup, None)[0], 700)
        self.assertEqual(limit_rooms(fonts, 0, sup, None)[0], 70)
        told = limited(fonts, 0, nucleus, 0, sup, None)
        self.assertEqual((told.width, told.height, told.depth), (800, 1150, 300))

    def test_table(self):
        fonts = fonts_with({"rule": 40}, {"baseline": 1200, "apart": 100})
        for many, distance in ((0, 1200), (2, 1200), (3, 1280)):
            rows = [[Box(0, 0, 300)]] + ["rule"] * many + [[Box(0, 500, 0)]]
            upper, lower = table_grid(fonts, 0, "l", rows)[2]
            self.assertEqual(upper - lower, distance)

    def test_line_costs(self):
        def wide(width, kind="ord"):
            return ("list", kind, [("kern", width, "units")], None, None)
        row = [wide(60), wide(10, "bin"), wide(100), wide(10, "rel"), wide(20)]
        self.assertEqual(line_costs(fonts_with(), row, 2, "behind", [2, 4], 100, (3, 1)), (10, 900 + 3 + 1))

    def test_replaced_marks(self):
        fonts = fonts_with({}, {}, {"x": (500, 1, 1, 0, None, None), "y": (300, 1, 1, 0, None, None)})
        told = replaced_marks(fonts, [symbol("x")] * 3, 2, (1,), symbol("y"))
        self.assertEqual(told, [((0,), ("stays",)), ((2,), ("moves", -200, 0))])

    def test_idle_paths(self):
        formula = [("choice", [], [("kern", 1, "units")], [], [])]
        self.assertEqual(idle_paths(formula, 0), [(0, 2, 0)])
        self.assertEqual(idle_paths(formula, 3), [])

    def test_felt_numbers(self):
        fonts = fonts_with({}, {}, {"x": (500, 1, 1, 0, None, None)})
        for style in range(8):
            self.assertEqual(felt_numbers(fonts, [symbol("x")], style), [])


if __name__ == "__main__":
    unittest.main()
