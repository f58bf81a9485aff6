"""Numbers that move (points 74 to 79)."""

import copy
import random
import unittest

from mathboxes.effects import felt_numbers
from mathboxes.errors import InvalidArgument, InvalidFormula, NoGlyph
from mathboxes.fonts import Fonts
from mathboxes.layout import layout
from mathboxes.moving import first_step, parting, pieces, ranges
from tests.chance import Maker, chance_fonts
from tests.samples import (
    LIMIT, NUMBER_WORDS, SETTING_WORDS, Case, fonts_with, nest, no_fonts, no_signed, no_styles, odd_values, symbol,
)

GRAIN = 9 * 10 ** 24
STEPS = 10 ** 30
PLACES = [(word, size) for size in range(3) for word in NUMBER_WORDS] + [
    (word, None) for word in SETTING_WORDS if word != "factor"
]
WORDS = ("width", "height", "depth")


def kern(width):
    return ("kern", width, "units")


def over(*inner):
    return ("over", list(inner), None, None)


def sizes_of(fonts, formula, style, word, size, step, at):
    box = layout(fonts.changed(word, size, fonts.number_at(word, size) + at * step), formula, style)
    return (box.width, box.height, box.depth)


def as_long_as_can_be(values):
    """The pieces of sizes that are known step by step."""
    found = []
    at = 0
    while at < len(values):
        end = min(at + 1, len(values) - 1)
        slopes = tuple(after - before for before, after in zip(values[at], values[end]))
        while end + 1 < len(values) and slopes == tuple(
            after - before for before, after in zip(values[end], values[end + 1])
        ):
            end += 1
        found.append((at, end, values[at], slopes))
        at = end + 1
    return found


def stack(great):
    """Glyphs of a delimiter that grows by so much with each repeat."""
    return {
        "p": (9, great, 0, 0, "ext", None), "ext": (9, 0, 0, 0, None, (None, None, None, "rep")),
        "rep": (7, great // 2, great // 2, 0, None, None),
    }


def felt_place(chance, fonts, formula, style):
    """The place of a number on which the formula's box hangs, if there is one."""
    felt = [place for place in felt_numbers(fonts, formula, style) if place[0] != "factor"]
    return chance.choice(felt or PLACES)


class Pieces(Case):

    def check(self, fonts, formula, style, place, step, last):
        told = pieces(fonts, formula, style, *place, step, last)
        values = [sizes_of(fonts, formula, style, *place, step, at) for at in range(last + 1)]
        self.assertEqual(told, as_long_as_can_be(values))
        return told

    def test_one_piece(self):
        fonts = fonts_with({"rule": 7})
        told = pieces(fonts, [over(kern(5))], 0, "rule", 0, GRAIN, 9)
        self.assertEqual(told, [(0, 9, (5, 35, 0), (0, 5 * GRAIN, 0))])
        told = pieces(last=9, step=2 * GRAIN, size=1, word="rule", style=0, formula=[over(kern(5))], fonts=fonts)
        self.assertEqual(told, [(0, 9, (5, 35, 0), (0, 0, 0))])

    def test_number_that_is_not_looked_at(self):
        fonts = fonts_with({}, {}, {"a": (3, 2, 1, 0, None, None)})
        for word, size in PLACES:
            for last in (0, 1, STEPS):
                told = pieces(fonts, [symbol(), symbol()], 3, word, size, GRAIN, last)
                self.assertEqual(told, [(0, last, (6, 2, 1), (0, 0, 0))])
                self.assertEqual(ranges(fonts, [symbol()], 3, word, size, GRAIN, last), ((3, 3), (2, 2), (1, 1)))

    def test_no_steps(self):
        fonts = fonts_with({"rule": 7})
        self.assertEqual(pieces(fonts, [over()], 0, "rule", 0, GRAIN, 0), [(0, 0, (0, 35, 0), (0, 0, 0))])

    def test_two_pieces(self):
        # The greater one of 100 and of 5 for each step.
        rows = [
            (100 * GRAIN, 19, [(0, 19, 100, 0)]), (100 * GRAIN, 20, [(0, 20, 100, 0)]),
            (100 * GRAIN, 21, [(0, 20, 100, 0), (21, 21, 105, 0)]),
            (100 * GRAIN, 22, [(0, 20, 100, 0), (21, 22, 105, 5)]), (102 * GRAIN, 40, [(0, 20, 102, 0), (21, 40, 105, 5)]),
        ]
        for high, last, expected in rows:
            fonts = fonts_with({}, {}, {"a": (0, high, 0, 0, None, None)})
            told = pieces(fonts, [over(), symbol()], 0, "rule", 0, GRAIN, last)
            self.assertEqual(told, [
                (first, end, (0, size * GRAIN, 0), (0, slope * GRAIN, 0)) for first, end, size, slope in expected
            ])

    def test_pieces_take_the_first_step_of_the_next_one(self):
        # A jump of one step lies in a straight line with the step ahead of it, if this begins a piece.
        glyphs = {"p": (9, GRAIN, 0, 0, "q", None), "q": (9, 90 * GRAIN, 0, 0, None, None)}
        p = (0, "p", 0, "p")
        fence = [("fence", p, [over()], None, None, None)]
        fonts = fonts_with({("rule", 0): 0}, {}, glyphs)
        told = self.check(fonts, fence, 0, ("rule", 0), GRAIN, 5)
        self.assertEqual([entry[:2] for entry in told], [(0, 1), (2, 5)])

    def test_one_step_in_the_last_piece(self):
        fonts = fonts_with({}, {}, {"a": (0, 5 * (STEPS - 1) * GRAIN, 0, 0, None, None)})
        told = pieces(fonts, [over(), symbol()], 0, "rule", 0, GRAIN, STEPS)
        high = 5 * GRAIN * (STEPS - 1)
        self.assertEqual(told, [
            (0, STEPS - 1, (0, high, 0), (0, 0, 0)), (STEPS, STEPS, (0, high + 5 * GRAIN, 0), (0, 0, 0)),
        ])

    def test_repeats(self):
        great = 10 * STEPS * GRAIN // 100
        fonts = fonts_with({("rule", 0): 1}, {}, stack(great))
        p = (0, "p", 0, "p")
        fence = [("fence", p, [over(kern(1))], p, None, None)]
        told = pieces(fonts, fence, 0, "rule", 0, GRAIN, STEPS)
        self.assertGreater(len(told), 50)
        self.assertEqual((told[0][0], told[-1][1]), (0, STEPS))
        for at, (first, last, sizes, slopes) in enumerate(told):
            for step in {first, last, (first + last) // 2}:
                there = tuple(size + (step - first) * slope for size, slope in zip(sizes, slopes))
                self.assertEqual(sizes_of(fonts, fence, 0, "rule", 0, GRAIN, step), there)
            if at > 0:
                self.assertEqual(told[at - 1][1] + 1, first)

    def test_a_number_as_great_as_it_may_be(self):
        fonts = fonts_with({("rule", 0): LIMIT - 30 * GRAIN}, {"apart": LIMIT})
        told = pieces(fonts, [over()], 0, "rule", 0, GRAIN, 30)
        self.assertEqual(told, [(0, 30, (0, 5 * LIMIT - 150 * GRAIN, 0), (0, 5 * GRAIN, 0))])
        self.assertTells(InvalidArgument, {"part": "last"}, pieces, fonts, [over()], 0, "rule", 0, GRAIN, 31)
        self.assertEqual(pieces(fonts, [], 0, "apart", None, GRAIN, 0), [(0, 0, (0, 0, 0), (0, 0, 0))])
        self.assertTells(InvalidArgument, {"part": "last"}, pieces, fonts, [], 0, "apart", None, GRAIN, 1)
        self.assertEqual(len(pieces(fonts_with(), [over()], 0, "rule", 0, LIMIT // GRAIN * GRAIN, 1)), 1)

    def test_all_that_is_divided(self):
        numbers = {("xheight", 0): 3, ("quad", 0): 17, ("rule", 0): 7, ("axis", 0): 5}
        a = (300 * GRAIN + 1, 200 * GRAIN + 1, 100 * GRAIN, 7, None, None)
        p = (0, "p", 0, "p")
        rows = [
            ([("kern", 7, "mu"), ("kern", -5, "mu")], ("quad", 0)), ([("center", [over()], None, None)], ("rule", 0)),
            ([("root", None, [symbol()], None, None)], ("rule", 0)), ([("root", p, [symbol()], None, None)], ("xheight", 0)),
            ([symbol("a", [symbol()], [symbol()])], ("xheight", 0)), ([("fraction", [symbol()], [symbol()], None, p, p)], ("rule", 0)),
            ([("fraction", [symbol()], [symbol()], 0, p, p)], ("rule", 0)), ([("fence", p, [over(symbol())], p, None, None)], ("rule", 0)),
            ([("fence", p, [over(symbol())], p, None, None)], ("axis", 0)), ([symbol(), symbol(kind="rel"), symbol()], ("thick", None)),
            ([symbol(), symbol(kind="rel"), symbol()], ("quad", 0)),
            ([("accent", 0, "a", [symbol("a", [symbol()])], [symbol()], None)], ("xheight", 0)),
            ([("table", "c|c", [[[over()], []], "rule", [[], [symbol()]]], None, None)], ("rule", 0)),
            ([("table", "c|c", [[[over()], []], "rule", [[], [symbol()]]], None, None)], ("baseline", None)),
            ([("operator", "always", [over()], [symbol()], [symbol()])], ("gap1", 0)),
        ]
        fonts = fonts_with(numbers, {"thick": 5, "factor": 901, "short": 50}, {"a": a, **stack(90 * GRAIN)})
        for formula, place in rows:
            for step in (GRAIN, 3 * GRAIN, 40 * GRAIN):
                self.check(fonts, formula, 0, place, step, 60)

    def test_as_told(self):
        chance = random.Random(1)
        many = 0
        for _ in range(60):
            fonts = chance_fonts(chance, chance.choice([9, 20, 60, 150]) * GRAIN)
            for word in ("thin", "medium", "thick"):
                fonts = fonts.changed(word, None, chance.randrange(40))
            formula, style = Maker(chance).formula(), chance.randrange(8)
            place = felt_place(chance, fonts, formula, style)
            many += len(self.check(fonts, formula, style, place, GRAIN * chance.choice([1, 3, 7]), chance.randrange(60)))
        self.assertGreater(many, 100)

    def test_glyphs_that_are_taken_for_one_step(self):
        def glyph(width, height, later):
            return (width * GRAIN, height * GRAIN, 0, 0, later, None)
        # Each step makes the least total 20 grains greater, and the accented box 15.
        glyphs = {
            "p": glyph(1, 5, "q"), "q": glyph(2, 25, "r"), "r": glyph(3, 45, "s"), "s": glyph(4, 50, "t"),
            "t": glyph(5, 90, "u"), "u": glyph(6, 300, None),
            "hat": glyph(1, 7, "hot"), "hot": glyph(30, 3, "hut"), "hut": glyph(45, 9, "hit"), "hit": glyph(50, 19, None),
        }
        p = (0, "p", 0, "p")
        fence = ("fence", p, [over()], None, None, None)
        accent = ("accent", 0, "hat", [("kern", 15, "mu")], None, None)
        for step in (1, 2, 3, 5):
            fonts = fonts_with({("rule", 0): 0, ("quad", 0): 0}, {}, glyphs)
            self.check(fonts, [fence], 0, ("rule", 0), 4 * step * GRAIN, 12)
            self.check(fonts, [accent], 0, ("quad", 0), 18 * step * GRAIN, 12)
            self.check(fonts, [accent, fence], 0, ("quad", 0), 6 * step * GRAIN, 12)
        for high in (5, 50, 60):
            extending = {"e": (9, 0, 0, 0, None, (None, None, None, "r")), "r": glyph(3, high, None)}
            e = (0, "e", 0, "e")
            for step in (1, 2, 3, 5):
                fonts = fonts_with({("rule", 0): 0}, {}, extending)
                self.check(fonts, [("fence", e, [over()], e, None, None)], 0, ("rule", 0), step * GRAIN, 70)

    def test_great_numbers(self):
        chance = random.Random(2)
        for _ in range(20):
            fonts = chance_fonts(chance, 10 ** 53)
            for word in ("thin", "medium", "thick"):
                fonts = fonts.changed(word, None, chance.randrange(40))
            formula, style = Maker(chance).formula(), chance.randrange(8)
            word, size = felt_place(chance, fonts, formula, style)
            told = pieces(fonts, formula, style, word, size, GRAIN, 10 ** 30)
            self.assertEqual([entry[0] for entry in told[1:]], [entry[1] + 1 for entry in told[:-1]])
            for at, (first, last, sizes, slopes) in enumerate(told):
                for step in {first, last, chance.randrange(first, last + 1)}:
                    there = tuple(size + (step - first) * slope for size, slope in zip(sizes, slopes))
                    self.assertEqual(sizes_of(fonts, formula, style, word, size, GRAIN, step), there)
                if at + 1 < len(told):
                    # It can't be longer.
                    there = tuple(size + (last + 1 - first) * slope for size, slope in zip(sizes, slopes))
                    self.assertNotEqual(told[at + 1][2], there)


class Steps(Case):

    def test_bounds(self):
        fonts = fonts_with({}, {}, {"a": (0, 100 * GRAIN, 0, 0, None, None)})
        row = [over(), symbol()]
        for bound, step in (
            (-LIMIT, 0), (0, 0), (100 * GRAIN, 0), (100 * GRAIN + 1, 21), (105 * GRAIN, 21), (105 * GRAIN + 1, 22),
            (110 * GRAIN, 22), (200 * GRAIN, 40), (200 * GRAIN + 1, None), (LIMIT, None),
        ):
            self.assertEqual(first_step(fonts, row, 0, "rule", 0, GRAIN, 40, "height", bound), step)
        self.assertEqual(first_step(fonts, row, 0, "rule", 0, GRAIN, 40, "depth", 1), None)
        self.assertEqual(first_step(fonts, row, 0, "rule", 0, GRAIN, STEPS, "height", 5 * STEPS * GRAIN), STEPS)
        self.assertEqual(first_step(fonts, row, 0, "rule", 0, GRAIN, STEPS, "height", 5 * STEPS * GRAIN + 1), None)
        told = first_step(
            bound=105 * GRAIN, part="height", last=40, step=GRAIN, size=0, word="rule", style=0, formula=row, fonts=fonts)
        self.assertEqual(told, 21)

    def test_ranges(self):
        fonts = fonts_with({}, {}, {"a": (7, 100 * GRAIN, 3, 0, None, None)})
        row = [over(), symbol()]
        self.assertEqual(ranges(fonts, row, 0, "rule", 0, GRAIN, 20), ((7, 7), (100 * GRAIN, 100 * GRAIN), (3, 3)))
        self.assertEqual(ranges(fonts, row, 0, "rule", 0, GRAIN, 21), ((7, 7), (100 * GRAIN, 105 * GRAIN), (3, 3)))
        center = [("center", [symbol()], None, None)]
        axis = fonts_with({"axis": 8}, {}, {"a": (7, 10, 20, 0, None, None)})
        told = ranges(last=3, step=GRAIN, size=0, word="axis", style=0, formula=center, fonts=axis)
        self.assertEqual(told, ((7, 7), (23, 23 + 3 * GRAIN), (0, 7)))

    def test_parting(self):
        fonts = fonts_with({}, {}, {"a": (0, 100 * GRAIN, 0, 0, None, None), "b": (0, 100 * GRAIN + 1, 0, 0, None, None)})
        rows = [
            ([symbol()], [symbol(), over()], 21), ([symbol()], [symbol()], None), ([symbol()], [symbol("b")], 0),
            ([over()], [over(), symbol()], 0), ([over()], [over(), kern(0)], None), ([over()], [over(), kern(1)], 0),
            ([over()], [], 1), ([over(symbol())], [symbol()], 1), ([over(symbol("b"))], [symbol("b")], 1), ([symbol("a"), over()], [symbol("b"), over()], 0),
            ([symbol("a"), over(), symbol("a")], [over(), ("under", [symbol("a")], None, None)], 1),
        ]
        for one, other, step in rows:
            for first, second in ((one, other), (other, one)):
                self.assertEqual(parting(fonts, first, second, 0, "rule", 0, GRAIN, 40), step, (one, other))
        self.assertEqual(parting(fonts, [symbol()], [symbol(), over()], 0, "rule", 0, GRAIN, 20), None)
        self.assertEqual(parting(fonts, [symbol()], [symbol(), over()], 0, "rule", 0, GRAIN, STEPS), 21)
        told = parting(last=40, step=GRAIN, size=0, word="rule", style=0, other=[], formula=[over()], fonts=fonts)
        self.assertEqual(told, 1)

    def test_as_told(self):
        chance = random.Random(3)
        for _ in range(60):
            fonts = chance_fonts(chance, chance.choice([20, 60]) * GRAIN)
            for word in ("thin", "medium", "thick"):
                fonts = fonts.changed(word, None, chance.randrange(40))
            formula, style = Maker(chance, deep=4).formula(), chance.randrange(8)
            word, size = felt_place(chance, fonts, formula, style)
            step, last = GRAIN * chance.choice([1, 3]), chance.randrange(50)
            values = [sizes_of(fonts, formula, style, word, size, step, at) for at in range(last + 1)]
            told = ranges(fonts, formula, style, word, size, step, last)
            self.assertEqual(told, tuple((min(row), max(row)) for row in zip(*values)))
            for which, part in enumerate(WORDS):
                bound = chance.choice(values)[which] + chance.choice([-1, 0, 1])
                there = [at for at, sizes in enumerate(values) if sizes[which] >= bound]
                found = first_step(fonts, formula, style, word, size, step, last, part, bound)
                self.assertEqual(found, there[0] if there else None)

    def test_parting_as_told(self):
        chance = random.Random(4)
        parted = 0
        for _ in range(60):
            style = chance.randrange(8)
            size = (0, 0, 0, 0, 1, 1, 2, 2)[style]
            fonts = chance_fonts(chance, 60 * GRAIN).changed("rule", size, 0)
            formula = Maker(chance, deep=4).formula()
            # Something beside the formula becomes higher or deeper than it sooner or later.
            later = chance.choice([over(), ("under", [], None, None), ("center", [over()], None, None)])
            other = [("list", "ord", formula, None, None), later]
            values = [
                [sizes_of(fonts, there, style, "rule", size, GRAIN, at) for at in range(40)] for there in (formula, other)
            ]
            unlike = [at for at in range(40) if values[0][at] != values[1][at]]
            told = parting(fonts, formula, other, style, "rule", size, GRAIN, 39)
            self.assertEqual(told, unlike[0] if unlike else None)
            self.assertEqual(parting(fonts, other, formula, style, "rule", size, GRAIN, 39), told)
            self.assertEqual(parting(fonts, formula, formula, style, "rule", size, GRAIN, 39), None)
            parted += bool(unlike) and unlike[0] > 1
        self.assertGreater(parted, 10)


class WrongArguments(Case):

    def setUp(self):
        self.fonts = fonts_with({("rule", 0): 5}, {"apart": 5}, {"a": (1, 1, 1, 1, None, None)})
        self.right = {
            "fonts": self.fonts, "formula": [], "style": 7, "word": "rule", "size": 0, "step": GRAIN, "last": STEPS,
        }

    def wrong(self, function):
        words = [None, 0, "", "Rule", "rules", "factor", ("rule",)] + odd_values()
        steps = [0, 1, -GRAIN, GRAIN - 1, GRAIN + 1, GRAIN // 2, LIMIT + GRAIN, LIMIT, None, str(GRAIN)] + odd_values()
        lasts = [-1, STEPS + 1, LIMIT, None] + odd_values()
        formula = ("formula", [nest(7)], InvalidFormula, {"path": (0, 2, 0, 2, 0, 2, 0, 2, 0, 2, 0, 2)})
        found = [("fonts", no_fonts(), InvalidArgument, {"part": "fonts"}), formula]
        if function is parting:
            found.append(("other", *formula[1:]))
        return found + [
            ("style", no_styles(), InvalidArgument, {"part": "style"}), ("word", words, InvalidArgument, {"part": "word"}),
            ("size", [3, -1, None] + odd_values(), InvalidArgument, {"part": "size"}),
            ("step", [value for value in steps if value != LIMIT or LIMIT % GRAIN], InvalidArgument, {"part": "step"}),
            ("last", lasts, InvalidArgument, {"part": "last"}),
        ]

    def more(self, function):
        if function is first_step:
            return {"part": "width", "bound": LIMIT}
        return {"other": []} if function is parting else {}

    def test_in_order(self):
        parts = [None, 0, "", "Width", "size", ["width"]] + odd_values()
        for function in (pieces, first_step, ranges, parting):
            wrong = self.wrong(function)
            if function is first_step:
                wrong += [
                    ("part", parts, InvalidArgument, {"part": "part"}),
                    ("bound", no_signed(), InvalidArgument, {"part": "bound"}),
                ]
            self.assertRefuses(function, {**self.right, **self.more(function)}, wrong)

    def test_settings(self):
        for function in (pieces, first_step, ranges, parting):
            right = {**self.right, **self.more(function), "word": "apart", "size": None}
            values = [0, 1, 2] + [value for value in odd_values()]
            self.assertRefuses(function, right, [("size", values, InvalidArgument, {"part": "size"})])
            for word in NUMBER_WORDS:
                function(**{**right, "word": word, "size": 2})
            for word in SETTING_WORDS:
                if word != "factor":
                    function(**{**right, "word": word})

    def test_number_that_would_be_too_great(self):
        for number, last in ((LIMIT, 1), (LIMIT - GRAIN, 2), (LIMIT - GRAIN + 1, 1), (0, STEPS)):
            fonts = fonts_with({("rule", 0): number})
            for function in (pieces, first_step, ranges, parting):
                right = {**self.right, **self.more(function), "fonts": fonts}
                step = GRAIN if number else LIMIT // GRAIN * GRAIN
                self.assertTells(InvalidArgument, {"part": "last"}, function, **{**right, "step": step, "last": last})

    def test_glyphs_that_lack(self):
        zz, yy = [symbol("zz")], [symbol("yy")]
        told = {"family": 0, "name": "zz"}
        for function in (pieces, first_step, ranges, parting):
            right = {**self.right, **self.more(function), "formula": zz}
            for last in (0, 5):
                self.assertTells(NoGlyph, told, function, **{**right, "last": last})
            self.assertTells(InvalidArgument, {"part": "last"}, function, **{**right, "last": -1})
        right = {**self.right, "formula": zz}
        self.assertTells(InvalidArgument, {"part": "bound"}, first_step, **right, part="width", bound=None)
        self.assertTells(InvalidArgument, {"part": "part"}, first_step, **right, part=None, bound=None)
        self.assertTells(NoGlyph, told, parting, **right, other=yy)
        self.assertTells(NoGlyph, told, parting, **{**right, "formula": []}, other=zz)

    def test_nothing_is_changed_or_kept(self):
        chance = random.Random(6)
        for _ in range(15):
            fonts, formula = chance_fonts(chance), Maker(chance).formula()
            other = copy.deepcopy(fonts)
            self.assertLeaves(lambda given: pieces(fonts, given, 0, "axis", 0, GRAIN, STEPS), formula)
            self.assertLeaves(lambda given: ranges(fonts, given, 0, "axis", 0, GRAIN, STEPS), formula)
            self.assertLeaves(lambda given: parting(fonts, given, [], 0, "axis", 0, GRAIN, STEPS), formula)
            self.assertLeaves(lambda given: first_step(fonts, given, 0, "axis", 0, GRAIN, STEPS, "width", 5), formula)
            self.assertEqual(fonts, other)
            self.assertIs(fonts.__class__, Fonts)


if __name__ == "__main__":
    unittest.main()
