"""The examples of the document, word for word."""

import doctest
import unittest

FONTS = '''
    >>> from mathboxes.fonts import Fonts
    >>> words = "xheight quad up1 up2 up3 down1 down2 sup1 sup2 sup3 sub1 sub2 supdrop subdrop delim1 delim2 axis rule".split()
    >>> words = words + "gap1 gap2 gap3 gap4 gap5".split()
    >>> numbers = dict.fromkeys(words, 100)
    >>> settings = dict.fromkeys("scriptspace factor short empty thin medium thick baseline apart column indent".split(), 3)
    >>> face = ({"a": (500, 400, 0, 20, None, None), "plus": (700, 600, 80, 0, None, None)}, {}, False)
    >>> fonts = Fonts([(face, face, face)], (numbers, numbers, numbers), settings)
    >>> [fonts.glyph(0, 2, "plus"), fonts.chain(0, 0, "a"), fonts.changed("axis", 1, 7).number_at("axis", 1)]
    [(700, 600, 80, 0, None, None), ['a'], 7]
'''

BOXES = '''
    >>> from mathboxes.boxes import Box, beside, widened
    >>> beside([Box(3, 2, 1), Box(4, -1, 5)]) == Box(7, 2, 5)
    True
    >>> widened(Box(3, 2, 1, [(0, 0, ("rule", (0,), 3, 1))]), 8).marks
    [(2, 0, ('rule', (0,), 3, 1))]
'''

FORMULAS = '''
    >>> from mathboxes.formulas import depth_of, paths, symbols
    >>> f = [("symbol", "ord", 0, "x", [("symbol", "ord", 0, "b", None, None)], None), ("fraction", [], [("kern", 2, "mu")], None, None, (1, "p", 2, "q"))]
    >>> paths(f)
    [(0,), (0, 4, 0), (1,), (1, 2, 0)]
    >>> (depth_of(f), symbols(f))
    (2, [((0,), 0, 'x'), ((0, 4, 0), 0, 'b'), ((1,), 1, 'p'), ((1,), 2, 'q')])
'''


class Examples(unittest.TestCase):

    def run_example(self, text, many):
        test = doctest.DocTestParser().get_doctest(text, {}, "example", None, None)
        said = []
        result = doctest.DocTestRunner(verbose=False).run(test, out=said.append)
        self.assertEqual((result.failed, result.attempted), (0, many), "".join(said))

    def test_fonts(self):
        self.run_example(FONTS, 8)

    def test_boxes(self):
        self.run_example(BOXES, 3)

    def test_formulas(self):
        self.run_example(FORMULAS, 4)


if __name__ == "__main__":
    unittest.main()
