"""What changes of formulas, styles and numbers do (points 83 to 86)."""

import copy
import random
import unittest

from mathboxes.compare import marks_of
from mathboxes.effects import felt_numbers, fitting_style, idle_paths, replaced_marks, style_sizes
from mathboxes.errors import InvalidArgument, InvalidFormula, InvalidPath, NoGlyph
from mathboxes.formulas import item_at, paths, replaced
from mathboxes.layout import layout
from tests.chance import Maker, chance_fonts
from tests.samples import (
    LIMIT, NUMBER_WORDS, SETTING_WORDS, Case, fonts_with, nest, no_fonts, no_signed, no_styles, odd_values, symbol,
)

STYLES = range(8)
A = (100, 40, 5, 3, None, None)
PLACES = [(word, size) for size in range(3) for word in NUMBER_WORDS] + [(word, None) for word in SETTING_WORDS]


def kern(width):
    return ("kern", width, "units")


def choice(*formulas):
    return ("choice", *formulas)


class Replaced(Case):

    def test_example(self):
        fonts = fonts_with({}, {}, {"x": (500, 1, 1, 0, None, None), "y": (300, 1, 1, 0, None, None)})
        row = [symbol("x")] * 3
        told = replaced_marks(fonts, row, 2, (1,), symbol("y"))
        self.assertEqual(told, [((0,), ("stays",)), ((2,), ("moves", -200, 0))])
        self.assertEqual(replaced_marks(item=symbol("y"), path=(1,), style=2, formula=row, fonts=fonts), told)

    def test_paths_that_begin_with_the_replaced_one(self):
        fonts = fonts_with({}, {}, {"a": A})
        row = [symbol("a", [symbol(), symbol()]), symbol()]
        wide = layout(fonts, row[:1], 2).width
        self.assertEqual(replaced_marks(fonts, row, 2, (0,), kern(7)), [((1,), ("moves", 7 - wide, 0))])
        self.assertEqual(replaced_marks(fonts, row, 2, (0, 4, 0), kern(103)), [
            ((0,), ("stays",)), ((0, 4, 1), ("stays",)), ((1,), ("stays",)),
        ])
        # The path (1,) does not begin with (1, 4, 0), nor does (1, 4, 10) with (1, 4, 1).
        many = [kern(0), symbol("a", [symbol()] * 11)]
        told = replaced_marks(fonts, many, 2, (1, 4, 1), symbol())
        self.assertEqual([path for path, _ in told], [(1,), (1, 4, 0)] + [(1, 4, at) for at in range(2, 11)])

    def test_marks_that_come_or_go(self):
        fonts = fonts_with({}, {}, {"a": A, "b": A}, {("a", "b"): ("join", "a")})
        row = [symbol("a"), kern(5), symbol("b"), symbol("a")]
        self.assertEqual(replaced_marks(fonts, row, 2, (1,), ("style", 2)), [
            ((0,), ("stays",)), ((2,), ("changes",)), ((3,), ("moves", -5 - 103, 0)),
        ])
        back = [symbol("a"), ("style", 2), symbol("b"), symbol("a")]
        self.assertEqual(replaced_marks(fonts, back, 2, (1,), kern(5)), [
            ((0,), ("stays",)), ((2,), ("changes",)), ((3,), ("moves", 108, 0)),
        ])
        # A style item chooses others.
        row = [("style", 2), choice([symbol()], [symbol()], [], []), symbol()]
        self.assertEqual(replaced_marks(fonts, row, 2, (0,), ("style", 0)), [
            ((1, 1, 0), ("changes",)), ((1, 2, 0), ("changes",)), ((2,), ("stays",)),
        ])

    def test_as_told(self):
        chance = random.Random(1)
        kinds = set()
        for _ in range(80):
            fonts, formula, style = chance_fonts(chance), Maker(chance).formula(), chance.randrange(8)
            if not formula:
                continue
            path = chance.choice(paths(formula))
            item = chance.choice([kern(70), symbol("a"), ("style", 4), symbol("b", [], None), ("list", "bin", [], None, None)])
            if item_at(formula, path)[0] == "middle":
                continue
            before = marks_of(fonts, formula, style)
            after = marks_of(fonts, replaced(formula, path, item), style)
            expected = []
            for there in paths(formula):
                if there[:len(path)] != path and (there in before or there in after):
                    one, other = before.get(there, []), after.get(there, [])
                    shifts = {(new[0] - old[0], new[1] - old[1]) for old, new in zip(one, other)}
                    if one == other:
                        deed = ("stays",)
                    elif [entry[2] for entry in one] == [entry[2] for entry in other] and len(shifts) == 1:
                        deed = ("moves", *shifts.pop())
                    else:
                        deed = ("changes",)
                    expected.append((there, deed))
                    kinds.add(deed[0])
            self.assertEqual(replaced_marks(fonts, formula, style, path, item), expected)
        self.assertEqual(kinds, {"stays", "moves", "changes"})

    def test_wrong_arguments(self):
        fonts = fonts_with({}, {}, {"a": A})
        right = {"fonts": fonts, "formula": [symbol(), symbol()], "style": 0, "path": (1,), "item": kern(5)}
        no_paths = [(), (2,), (-1,), (1, 4, 0), (True,), (1.0,), [1], 1, None, ("1",), ([],), (0, 0)] + [
            value for value in odd_values() if value != (True,)
        ]
        items = [None, 0, (), ("kern", 5), ("middle", None), ("style", True), [symbol()]] + odd_values()
        wrong = [
            ("fonts", no_fonts(), InvalidArgument, {"part": "fonts"}),
            ("formula", [nest(7)], InvalidFormula, {"path": (0, 2, 0, 2, 0, 2, 0, 2, 0, 2, 0, 2)}),
            ("style", no_styles(), InvalidArgument, {"part": "style"}),
        ]
        for path in no_paths:
            self.assertRefuses(replaced_marks, right, wrong[2:] + [
                ("path", [path], InvalidPath, {"path": path}), ("item", items[:1], InvalidFormula, {"path": (1,)}),
            ])
        self.assertRefuses(replaced_marks, right, wrong + [("path", [(5,)], InvalidPath, {"path": (5,)})])
        self.assertRefuses(replaced_marks, right, [("item", items, InvalidFormula, {"path": (1,)})])

    def test_glyphs_that_lack(self):
        fonts = fonts_with({}, {}, {"a": A})
        one, two = {"family": 0, "name": "one"}, {"family": 0, "name": "two"}
        self.assertTells(NoGlyph, one, replaced_marks, fonts, [symbol("one"), symbol()], 0, (0,), symbol("two"))
        self.assertTells(NoGlyph, one, replaced_marks, fonts, [symbol("one"), symbol()], 0, (0,), kern(5))
        self.assertTells(NoGlyph, two, replaced_marks, fonts, [symbol(), symbol()], 0, (0,), symbol("two"))
        self.assertTells(InvalidPath, {"path": (2,)}, replaced_marks, fonts, [symbol("one")], 0, (2,), None)
        self.assertTells(InvalidFormula, {"path": (0,)}, replaced_marks, fonts, [symbol("one")], 0, (0,), None)


class Idle(Case):

    def idle(self, formula, rows):
        for style, expected in zip(STYLES, rows):
            self.assertEqual(idle_paths(formula, style), expected, style)

    def test_example(self):
        formula = [choice([], [kern(1)], [], [])]
        self.assertEqual(idle_paths(formula, 0), [(0, 2, 0)])
        self.assertEqual(idle_paths(formula, 3), [])
        self.assertEqual(idle_paths(style=0, formula=formula), [(0, 2, 0)])

    def test_none(self):
        self.idle([], [[]] * 8)
        self.idle([symbol("zz", [kern(1)], [kern(2)]), ("style", 4), ("list", "op", [kern(1)], None, None)], [[]] * 8)

    def test_choice(self):
        formula = [choice([kern(1)], [kern(2), kern(3)], [symbol("a", [kern(1)])], [])]
        one, two, three = [(0, 1, 0)], [(0, 2, 0), (0, 2, 1)], [(0, 3, 0), (0, 3, 0, 4, 0)]
        self.idle(formula, [two + three] * 2 + [one + three] * 2 + [one + two] * 2 + [one + two + three] * 2)

    def test_styles_of_parts(self):
        tell = [choice([kern(0)], [kern(2)], [kern(4)], [kern(6)])]

        def others(taken, path):
            return [(*path, 0, way, 0) for way in range(1, 5) if way != taken // 2 + 1]

        sup, sub = (4, 5, 4, 5, 6, 7, 6, 7), (5, 5, 5, 5, 7, 7, 7, 7)
        num, den = (2, 3, 4, 5, 6, 7, 6, 7), (3, 3, 5, 5, 7, 7, 7, 7)
        rows = [
            (("symbol", "ord", 0, "a", tell, tell), {4: sup, 5: sub}), (("list", "op", tell, tell, tell), {2: STYLES, 3: sup, 4: sub}),
            (("over", tell, tell, tell), {1: STYLES, 2: sup, 3: sub}), (("under", tell, tell, tell), {1: STYLES, 2: sup, 3: sub}),
            (("center", tell, tell, tell), {1: STYLES, 2: sup, 3: sub}), (("root", None, tell, tell, tell), {2: STYLES, 3: sup, 4: sub}),
            (("accent", 0, "a", tell, tell, tell), {3: STYLES, 4: sup, 5: sub}),
            (("operator", "never", tell, tell, tell), {2: STYLES, 3: sup, 4: sub}),
            (("fence", None, tell, None, tell, tell), {2: STYLES, 4: sup, 5: sub}),
            (("fraction", tell, tell, None, None, None), {1: num, 2: den}),
        ]
        for item, ways in rows:
            self.idle([item], [
                [path for way, styles in ways.items() for path in others(styles[style], (0, way))] for style in STYLES
            ])
        table = ("table", "ll", ["rule", [tell, tell]], tell, None)
        self.idle([table], [
            others(style, (0, 2, 1, 0)) + others(style, (0, 2, 1, 1)) + others(sup[style], (0, 3)) for style in STYLES
        ])

    def test_style_items(self):
        tell = choice([kern(0)], [kern(2)], [kern(4)], [kern(6)])
        switch = choice([("style", 6)], [("style", 4)], [("style", 2)], [("style", 0)])
        formula = [switch, tell]
        left = {0: [1, 2, 3], 1: [1, 2, 4], 2: [1, 3, 4], 3: [2, 3, 4]}
        for style in STYLES:
            expected = [(0, way, 0) for way in range(1, 5) if way != style // 2 + 1]
            self.assertEqual(idle_paths(formula, style), expected + [(1, way, 0) for way in left[style // 2]])
        within = [("list", "ord", [("style", 0)], None, None), tell]
        self.assertEqual(idle_paths(within, 4), [(1, 1, 0), (1, 2, 0), (1, 4, 0)])

    def test_choices_within_choices(self):
        inner = choice([("style", 2), kern(1)], [kern(2)], [], [])
        formula = [choice([inner, inner], [inner], [], []), inner]
        self.assertEqual(idle_paths(formula, 0), [
            (0, 1, 0, 2, 0), (0, 1, 1, 1, 0), (0, 1, 1, 1, 1), (0, 2, 0), (0, 2, 0, 1, 0), (0, 2, 0, 1, 1), (0, 2, 0, 2, 0),
            (1, 1, 0), (1, 1, 1),
        ])

    def test_any_item_in_the_place_of_an_idle_one(self):
        chance = random.Random(2)
        seen = 0
        for _ in range(60):
            fonts, formula = chance_fonts(chance), Maker(chance, words=["symbol", "choice", "style", "list", "accent", "fraction", "kern"]).formula()
            for style in (chance.randrange(8), chance.randrange(8)):
                box = layout(fonts, formula, style)
                idle = idle_paths(formula, style)
                self.assertEqual([path for path in paths(formula) if path in idle], idle)
                for path in idle[:4]:
                    seen += 1
                    other = replaced(formula, path, chance.choice([symbol("zz", []), kern(9), ("style", 6)]))
                    self.assertEqual(layout(fonts, other, style), box)
                for path in paths(formula):
                    # Whatever is read raises an error if a glyph lacks there.
                    other = replaced(formula, path, symbol("zz"))
                    if path not in idle:
                        self.assertTells(NoGlyph, {"family": 0, "name": "zz"}, layout, fonts, other, style)
        self.assertGreater(seen, 100)

    def test_wrong_arguments(self):
        self.assertRefuses(idle_paths, {"formula": [], "style": 7}, [
            ("formula", [None, 0, ((),), "formula"], InvalidFormula, {"path": ()}),
            ("style", no_styles(), InvalidArgument, {"part": "style"}),
        ])
        self.assertRefuses(idle_paths, {"formula": [], "style": 7}, [
            ("formula", [[kern(True)], [("middle", None)]], InvalidFormula, {"path": (0,)}),
            ("style", [True], InvalidArgument, {"part": "style"}),
        ])


class Sizes(Case):

    def test_sizes(self):
        fonts = fonts_with({}, {}, {(0, size, "a"): (10 * size + 5, 40 + size, 7 - size, 1, None, None) for size in range(3)})
        expected = [(6, 40, 7)] * 4 + [(16, 41, 6)] * 2 + [(26, 42, 5)] * 2
        self.assertEqual(style_sizes(fonts, [symbol()]), expected)
        self.assertEqual(style_sizes(formula=[], fonts=fonts), [(0, 0, 0)] * 8)
        chance = random.Random(3)
        for _ in range(60):
            fonts, formula = chance_fonts(chance), Maker(chance).formula()
            boxes = [layout(fonts, formula, style) for style in STYLES]
            self.assertEqual(style_sizes(fonts, formula), [(box.width, box.height, box.depth) for box in boxes])

    def test_fitting(self):
        fonts = fonts_with({}, {}, {(0, size, "a"): (10 - size, 40 - size, 7 - size, 0, None, None) for size in range(3)})
        row = [symbol()]
        for (width, height, depth), style in (
            ((10, 40, 7), 0), ((9, 40, 7), 4), ((10, 39, 7), 4), ((10, 40, 6), 4), ((9, 39, 6), 4), ((8, 39, 6), 6),
            ((9, 38, 6), 6), ((9, 39, 5), 6), ((8, 38, 5), 6), ((7, 38, 5), None), ((8, 37, 5), None), ((8, 38, 4), None),
            ((LIMIT, LIMIT, LIMIT), 0), ((-LIMIT, LIMIT, LIMIT), None),
        ):
            self.assertEqual(fitting_style(fonts, row, width, height, depth), style)
        self.assertEqual(fitting_style(depth=-1, height=0, width=0, formula=row, fonts=fonts), None)
        self.assertEqual(fitting_style(fonts, [kern(-5)], -5, 0, 0), 0)

    def test_wrong_arguments(self):
        fonts = fonts_with({}, {}, {"a": A, (0, 1, "low"): A})
        first = [
            ("fonts", no_fonts(), InvalidArgument, {"part": "fonts"}),
            ("formula", [nest(7)], InvalidFormula, {"path": (0, 2, 0, 2, 0, 2, 0, 2, 0, 2, 0, 2)}),
        ]
        lacking = [("formula", [[symbol("low")]], NoGlyph, {"family": 0, "name": "low"})]
        last = [
            (name, no_signed(), InvalidArgument, {"part": name}) for name in ("width", "height", "depth")
        ]
        self.assertRefuses(style_sizes, {"fonts": fonts, "formula": []}, first)
        self.assertRefuses(style_sizes, {"fonts": fonts, "formula": []}, lacking)
        right = {"fonts": fonts, "formula": [], "width": LIMIT, "height": -LIMIT, "depth": 0}
        self.assertRefuses(fitting_style, right, first + last)
        self.assertRefuses(fitting_style, right, lacking + last)


class Felt(Case):

    def felt(self, fonts, formula, style):
        box = layout(fonts, formula, style)
        found = []
        for word, size in PLACES:
            number = fonts.number_at(word, size)
            if number < (1000 if word == "factor" else LIMIT):
                if layout(fonts.changed(word, size, number + 1), formula, style) != box:
                    found.append((word, size))
        return found

    def test_few(self):
        fonts = fonts_with({"rule": 10}, {}, {"a": A, "p": (9, 5, 5, 0, None, None)})
        self.assertEqual(felt_numbers(fonts, [symbol()], 0), [])
        self.assertEqual(felt_numbers(fonts, [], 0), [])
        self.assertEqual(felt_numbers(fonts, [("kern", 18, "mu")], 5), [("quad", 1)])
        self.assertEqual(felt_numbers(fonts, [("kern", 17, "mu")], 5), [])
        self.assertEqual(felt_numbers(fonts, [("over", [], None, None)], 6), [("rule", 2)])
        self.assertEqual(felt_numbers(fonts, [("fence", None, [], None, None, None)], 6), [("empty", None)])
        self.assertEqual(felt_numbers(style=6, formula=[("over", [], None, None)], fonts=fonts), [("rule", 2)])

    def test_order(self):
        fonts = fonts_with({"quad": 1799}, {"thick": 2, "baseline": 5, "thin": 0, "medium": 2}, {"a": A})
        row = [
            ("table", "cc", [[[symbol("a", [("kern", 18, "mu")])], []], [[], []]], [("style", 6), ("kern", 18, "mu")], None),
            symbol(kind="rel"), ("operator", "never", [symbol()], None, None),
        ]
        told = felt_numbers(fonts, row, 0)
        self.assertEqual(told, self.felt(fonts, row, 0))
        self.assertEqual(told, [place for place in PLACES if place in told])
        self.assertTrue({("quad", 0), ("quad", 1), ("quad", 2), ("axis", 0), ("thick", None), ("column", None)} <= set(told))

    def test_marks_alone(self):
        # The sizes stay, as another cell is higher; the accent moves.
        fonts = fonts_with({"xheight": 10}, {}, {"a": A, "hat": (5, 1, 0, 0, None, None)})
        row = [symbol(), ("accent", 0, "hat", [symbol()], None, None), ("kern", 5, "units"), ("list", "ord", [symbol()], [], None)]
        self.assertIn(("xheight", 0), felt_numbers(fonts, row, 0))

    def test_numbers_that_are_as_great_as_they_may_be(self):
        fonts = fonts_with({("quad", 0): LIMIT, ("quad", 1): LIMIT - 1}, {"empty": LIMIT}, {"p": (9, 100, 900, 0, "q", None), "q": (8, 5000, 900, 0, None, None), "a": A})
        row = [("kern", 18, "mu"), ("style", 4), ("kern", 18, "mu"), ("fence", None, [], None, None, None)]
        self.assertEqual(felt_numbers(fonts, row, 0), [("quad", 1)])
        p = (0, "p", 0, "p")
        fence = [("fence", p, [("table", "l", [[[]], [[]]], None, None)], p, None, None)]
        for factor, expected in ((1000, False), (999, True)):
            fonts = fonts_with({}, {"baseline": 1000, "factor": factor, "short": 1000}, {"p": (9, 0, 999, 0, "q", None), "q": (8, 5000, 900, 0, None, None)})
            self.assertEqual(("factor", None) in felt_numbers(fonts, fence, 0), expected)

    def test_as_told(self):
        chance = random.Random(4)
        seen = set()
        for _ in range(40):
            fonts, formula, style = chance_fonts(chance, chance.choice([30, 900])), Maker(chance).formula(), chance.randrange(8)
            told = felt_numbers(fonts, formula, style)
            self.assertEqual(told, self.felt(fonts, formula, style))
            seen.update(word for word, _ in told)
        self.assertGreater(len(seen), 25)

    def test_wrong_arguments(self):
        fonts = fonts_with({}, {}, {"a": A})
        right = {"fonts": fonts, "formula": [], "style": 7}
        self.assertRefuses(felt_numbers, right, [
            ("fonts", no_fonts(), InvalidArgument, {"part": "fonts"}),
            ("formula", [nest(7)], InvalidFormula, {"path": (0, 2, 0, 2, 0, 2, 0, 2, 0, 2, 0, 2)}),
            ("style", no_styles(), InvalidArgument, {"part": "style"}),
        ])
        self.assertTells(NoGlyph, {"family": 0, "name": "zz"}, felt_numbers, fonts, [symbol("zz")], 0)

    def test_nothing_is_changed_or_kept(self):
        chance = random.Random(5)
        for _ in range(15):
            fonts, formula = chance_fonts(chance), Maker(chance).formula()
            other = copy.deepcopy(fonts)
            self.assertLeaves(lambda given: felt_numbers(fonts, given, 0), formula)
            self.assertLeaves(lambda given: idle_paths(given, 0), formula)
            self.assertLeaves(lambda given: style_sizes(fonts, given), formula)
            if formula and formula[0][0] != "middle":
                self.assertLeaves(lambda given, item: replaced_marks(fonts, given, 0, (0,), item), formula, symbol("a", [], []))
            self.assertEqual(fonts, other)


if __name__ == "__main__":
    unittest.main()
