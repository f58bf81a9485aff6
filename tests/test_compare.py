"""Marks by their paths, and styles compared (points 80 to 82)."""

import copy
import random
import unittest

from mathboxes.boxes import same_ink
from mathboxes.compare import alike_styles, marks_of, same_ink_styles, what_moves
from mathboxes.errors import InvalidArgument, InvalidFormula, NoGlyph
from mathboxes.formulas import paths
from mathboxes.layout import layout
from tests.chance import Maker, chance_fonts
from tests.samples import Case, fonts_with, glyph, nest, no_fonts, no_styles, symbol

STYLES = range(8)
A = (100, 40, 5, 3, None, None)


def kern(width):
    return ("kern", width, "units")


def choice(*formulas):
    return ("choice", *formulas)


class Marks(Case):

    def test_by_path(self):
        fonts = fonts_with({"rule": 10}, {"scriptspace": 7}, {"a": A, "p": (9, 50, 50, 0, None, None)})
        p = (0, "p", 0, "p")
        formula = [kern(50), symbol("a", [symbol()]), ("fraction", [symbol()], [], None, p, p)]
        told = marks_of(fonts, formula, 2)
        box = layout(fonts, formula, 2)
        self.assertEqual(told, {
            (1,): [box.marks[0]], (1, 4, 0): [box.marks[1]], (2,): [box.marks[2], box.marks[4], box.marks[5]],
            (2, 1, 0): [box.marks[3]],
        })
        self.assertEqual(told[1,], [glyph(50, 0, path=(1,))])
        self.assertEqual(marks_of(style=2, formula=formula, fonts=fonts), told)
        self.assertEqual(marks_of(fonts, [kern(5)], 2), {})

    def test_all_marks_in_their_order(self):
        chance = random.Random(1)
        for _ in range(60):
            fonts, formula, style = chance_fonts(chance), Maker(chance).formula(), chance.randrange(8)
            box = layout(fonts, formula, style)
            told = marks_of(fonts, formula, style)
            for path, marks in told.items():
                self.assertEqual(marks, [placed for placed in box.marks if placed[2][1] == path])
            self.assertEqual(sum(map(len, told.values())), len(box.marks))
            self.assertTrue(set(told) <= set(paths(formula)))


class Moves(Case):

    def setUp(self):
        self.fonts = fonts_with({"sup1": 50, "sup2": 40, "sup3": 30}, {"thick": 1}, {"a": A}, {})

    def test_deeds(self):
        formula = [symbol("a", [symbol()]), choice([kern(5)], [kern(3)], [kern(3)], []), symbol()]
        self.assertEqual(what_moves(self.fonts, formula, 0, 1), [
            ((0,), ("stays",)), ((0, 4, 0), ("moves", 0, -20)), ((2,), ("stays",)),
        ])
        self.assertEqual(what_moves(self.fonts, formula, 0, 2), [
            ((0,), ("stays",)), ((0, 4, 0), ("moves", 0, -10)), ((2,), ("moves", -2, 0)),
        ])
        self.assertEqual(what_moves(self.fonts, formula, 2, 4), [
            ((0,), ("changes",)), ((0, 4, 0), ("changes",)), ((2,), ("changes",)),
        ])
        self.assertEqual(what_moves(other=4, one=2, formula=formula, fonts=self.fonts), what_moves(self.fonts, formula, 2, 4))

    def test_marks_in_one_box_alone(self):
        formula = [choice([symbol()], [], [symbol()], [kern(3)]), kern(5), symbol()]
        self.assertEqual(what_moves(self.fonts, formula, 0, 2), [((0, 1, 0), ("changes",)), ((2,), ("moves", -103, 0))])
        self.assertEqual(what_moves(self.fonts, formula, 2, 0), [((0, 1, 0), ("changes",)), ((2,), ("moves", 103, 0))])
        self.assertEqual([path for path, _ in what_moves(self.fonts, formula, 0, 4)], [(0, 1, 0), (0, 3, 0), (2,)])

    def test_several_marks_of_a_path(self):
        glyphs = {"a": A, "p": (9, 50, 50, 0, None, None)}
        p = (0, "p", 0, "p")
        for inner, deed in (
            ([choice([kern(3)], [kern(7)], [], [])], ("changes",)), ([choice([kern(7)], [kern(7)], [], [])], ("stays",)),
        ):
            fence = ("fence", p, inner, p, None, None)
            self.assertEqual(what_moves(fonts_with({}, {}, glyphs), [fence], 0, 2), [((0,), deed)])
        row = [choice([kern(3)], [kern(7)], [], []), ("fence", p, [], p, None, None)]
        self.assertEqual(what_moves(fonts_with({}, {}, glyphs), row, 0, 2), [((1,), ("moves", 4, 0))])
        # A rule of another size does not only move.
        fonts = fonts_with({("rule", 0): 10})
        over = [("over", [choice([kern(3)], [kern(7)], [], [])], None, None)]
        self.assertEqual(what_moves(fonts, over, 0, 2), [((0,), ("changes",))])

    def test_facts(self):
        chance = random.Random(2)
        kinds = set()
        for _ in range(60):
            fonts, formula = chance_fonts(chance), Maker(chance).formula()
            one, other = chance.randrange(8), chance.randrange(8)
            there, back = what_moves(fonts, formula, one, other), what_moves(fonts, formula, other, one)
            self.assertEqual({deed for _, deed in what_moves(fonts, formula, one, one)} - {("stays",)}, set())
            turned = [(path, deed if len(deed) == 1 else ("moves", -deed[1], -deed[2])) for path, deed in back]
            self.assertEqual(there, turned)
            before, after = marks_of(fonts, formula, one), marks_of(fonts, formula, other)
            told = [path for path, _ in there]
            self.assertEqual(told, [path for path in paths(formula) if path in before or path in after])
            for path, deed in there:
                kinds.add(deed[0])
                self.assertEqual(deed == ("stays",), before.get(path) == after.get(path))
                if deed[0] == "moves":
                    self.assertNotEqual(deed, ("moves", 0, 0))
                    moved = [(x + deed[1], y + deed[2], mark) for x, y, mark in before[path]]
                    self.assertEqual(moved, after[path])
                elif deed[0] == "changes" and path in before and path in after:
                    shifts = {(two[0] - one[0], two[1] - one[1]) for one, two in zip(before[path], after[path])}
                    same = [entry[2] for entry in before[path]] == [entry[2] for entry in after[path]]
                    self.assertFalse(same and len(shifts) == 1)
        self.assertEqual(kinds, {"stays", "moves", "changes"})


class Styles(Case):

    def test_same_ink(self):
        fonts = fonts_with({}, {}, {"a": A, "b": A})
        one = [symbol("a"), choice([kern(5)], [], [], [kern(7)])]
        other = [("list", "ord", [symbol("a")], None, None), choice([], [], [kern(3)], [kern(7)])]
        self.assertEqual(same_ink_styles(fonts, one, other), [2, 3, 6, 7])
        self.assertEqual(same_ink_styles(other=one, one=one, fonts=fonts), list(STYLES))
        self.assertEqual(same_ink_styles(fonts, [symbol("a")], [symbol("b")]), [])
        # Paths do not matter, and neither does the order of marks.
        back = [kern(103), symbol("a"), kern(-206), symbol("b"), kern(103)]
        self.assertEqual(same_ink_styles(fonts, [symbol("b"), symbol("a")], back), list(STYLES))
        self.assertEqual(same_ink_styles(fonts, [symbol("b"), symbol("a")], back + [kern(1)]), [])

    def test_alike(self):
        fonts = fonts_with({"sup1": 9, "sup2": 8, "sup3": 8}, {}, {"a": A})
        self.assertEqual(alike_styles(fonts, []), [list(STYLES)])
        self.assertEqual(alike_styles(fonts, [symbol()]), [[0, 1, 2, 3], [4, 5], [6, 7]])
        self.assertEqual(alike_styles(formula=[symbol("a", [kern(0)])], fonts=fonts), [[0, 1, 2, 3], [4, 5], [6, 7]])
        self.assertEqual(alike_styles(fonts, [("list", "ord", [], [("list", "ord", [kern(2)], [], None)], None)]), [[0], [1, 2, 3, 4, 5, 6, 7]])
        formula = [choice([kern(5)], [kern(4)], [kern(5)], [kern(4)])]
        self.assertEqual(alike_styles(fonts, formula), [[0, 1, 4, 5], [2, 3, 6, 7]])

    def test_as_told(self):
        chance = random.Random(3)
        for _ in range(40):
            fonts, one = chance_fonts(chance), Maker(chance, 12, 3).formula()
            other = Maker(chance, 12, 3).formula() if chance.random() < 0.5 else [choice(one, one, [], one)]
            boxes = [[layout(fonts, formula, style) for style in STYLES] for formula in (one, other)]
            same = [style for style in STYLES if same_ink(boxes[0][style], boxes[1][style])]
            self.assertEqual(same_ink_styles(fonts, one, other), same)
            told = alike_styles(fonts, one)
            self.assertEqual(sorted(sum(told, [])), list(STYLES))
            self.assertEqual([group[0] for group in told], sorted(group[0] for group in told))
            for group in told:
                self.assertEqual(group, [style for style in STYLES if same_ink(boxes[0][group[0]], boxes[0][style])])

    def test_great_boxes(self):
        great = [kern(10 ** 60)] * 3
        self.assertEqual(alike_styles(fonts_with(), great), [list(STYLES)])
        self.assertEqual(same_ink_styles(fonts_with(), great, great), list(STYLES))
        self.assertEqual(what_moves(fonts_with({}, {}, {"a": A}), great + [symbol()], 0, 1), [((3,), ("stays",))])


class WrongArguments(Case):

    def setUp(self):
        self.fonts = fonts_with({}, {}, {"a": A, (0, 1, "low"): A})

    def test_in_order(self):
        first = ("fonts", no_fonts(), InvalidArgument, {"part": "fonts"})
        styles = no_styles()

        def formula(name):
            return (name, [nest(7)], InvalidFormula, {"path": (0, 2, 0, 2, 0, 2, 0, 2, 0, 2, 0, 2)})

        def style(name):
            return (name, styles, InvalidArgument, {"part": name})

        self.assertRefuses(marks_of, {"fonts": self.fonts, "formula": [], "style": 0}, [first, formula("formula"), style("style")])
        self.assertRefuses(
            what_moves, {"fonts": self.fonts, "formula": [], "one": 0, "other": 7},
            [first, formula("formula"), style("one"), style("other")])
        self.assertRefuses(same_ink_styles, {"fonts": self.fonts, "one": [], "other": []}, [first, formula("one"), formula("other")])
        self.assertRefuses(alike_styles, {"fonts": self.fonts, "formula": []}, [first, formula("formula")])

    def test_glyphs_that_lack(self):
        lacking, low = [symbol("zz")], [symbol("low")]
        told = {"family": 0, "name": "zz"}
        small = {"family": 0, "name": "low"}
        self.assertTells(NoGlyph, told, marks_of, self.fonts, lacking, 0)
        self.assertTells(InvalidArgument, {"part": "other"}, what_moves, self.fonts, lacking, 0, 8)
        self.assertTells(NoGlyph, small, what_moves, self.fonts, low, 4, 0)
        self.assertTells(NoGlyph, small, what_moves, self.fonts, low, 6, 4)
        self.assertEqual(what_moves(self.fonts, low, 4, 5), [((0,), ("stays",))])
        two = [choice([symbol("one")], [], [], []), choice([], [symbol("two")], [], [])]
        self.assertTells(NoGlyph, {"family": 0, "name": "one"}, what_moves, self.fonts, two, 0, 2)
        self.assertTells(NoGlyph, {"family": 0, "name": "two"}, what_moves, self.fonts, two, 2, 0)
        self.assertTells(NoGlyph, told, same_ink_styles, self.fonts, lacking, low)
        self.assertTells(NoGlyph, small, same_ink_styles, self.fonts, low, lacking)
        # Style by style, one ahead of other.
        self.assertTells(
            NoGlyph, told, same_ink_styles, self.fonts, [choice([], [], [], [symbol("one")])], [choice([], [], lacking, [])])
        self.assertTells(InvalidFormula, {"path": ()}, same_ink_styles, self.fonts, lacking, None)
        self.assertTells(NoGlyph, small, alike_styles, self.fonts, low)

    def test_nothing_is_changed_or_kept(self):
        chance = random.Random(4)
        for _ in range(15):
            fonts, formula = chance_fonts(chance), Maker(chance).formula()
            other = copy.deepcopy(fonts)
            self.assertLeaves(lambda given: marks_of(fonts, given, 0), formula)
            self.assertLeaves(lambda given: what_moves(fonts, given, 0, 5), formula)
            self.assertLeaves(lambda given: alike_styles(fonts, given), formula)
            self.assertLeaves(lambda one, two: same_ink_styles(fonts, one, two), formula, [])
            self.assertEqual(fonts, other)


if __name__ == "__main__":
    unittest.main()
