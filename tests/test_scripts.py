"""Scripts: their shifts, what rules them, and their rooms (points 36 to 39)."""

import itertools
import random
import unittest

from mathboxes.boxes import Box
from mathboxes.errors import InvalidArgument
from mathboxes.scripts import rooms, ruling, scripted, shifts
from tests.samples import (
    LIMIT, Case, fonts_with, glyph, no_amounts, no_boxes, no_fonts, no_styles, odd_values, rule,
)

# The numbers of the text and of the script size that the document's examples of this stage have.
NUMBERS = {
    ("xheight", 0): 430, ("rule", 0): 40, ("sup1", 0): 410, ("sup2", 0): 360, ("sup3", 0): 290, ("sub1", 0): 150,
    ("sub2", 0): 250, ("supdrop", 1): 390, ("subdrop", 1): 50,
}
FONTS = fonts_with(NUMBERS, {"scriptspace": 50})
EMPTY = Box(0, 0, 0)
STYLES = range(8)
SIZES = (0, 0, 0, 0, 1, 1, 2, 2)
SUP_SIZES = (1, 1, 1, 1, 2, 2, 2, 2)


def box(width=0, height=0, depth=0):
    return Box(width, height, depth)


class Shifts(Case):

    def shifted(self, expected, sup=None, sub=None, style=0, nucleus=EMPTY, is_glyph=True, fonts=FONTS):
        self.assertEqual(shifts(fonts, style, nucleus, is_glyph, sup, sub), expected)

    def test_examples(self):
        self.shifted((410, 250), box(300, 300, 0), box(300, 300, 0))
        self.shifted((544, 316), box(300, 300, 200), box(300, 500, 0))

    def test_none(self):
        self.shifted((None, None))
        self.shifted((None, None), nucleus=box(1, 2, 3), is_glyph=False)

    def test_numbers_of_the_rise(self):
        for style, rise in enumerate([410, 290, 360, 290]):
            self.shifted((rise, None), box(), style=style)
        words = ["sup1", "sup3", "sup2", "sup3", "sup2", "sup3", "sup2", "sup3"]
        for style, word in enumerate(words):
            for other, size in itertools.product(("sup1", "sup2", "sup3"), range(3)):
                number = 7 if (other, size) == (word, SIZES[style]) else 0
                self.shifted((number, None), box(), style=style, fonts=fonts_with({(other, size): 7}))

    def test_numbers_of_the_fall(self):
        for style in STYLES:
            for word, size in itertools.product(("sub1", "sub2"), range(3)):
                fonts = fonts_with({(word, size): 7})
                alone = 7 if (word, size) == ("sub1", SIZES[style]) else 0
                self.shifted((None, alone), sub=box(), style=style, fonts=fonts)
                with_both = 7 if (word, size) == ("sub2", SIZES[style]) else 0
                self.shifted((0, with_both), box(), box(), style=style, fonts=fonts)

    def test_nucleus(self):
        nucleus = box(0, 1000, 700)
        self.shifted((1000 - 390, None), box(), nucleus=nucleus, is_glyph=False)
        self.shifted((None, 700 + 50), sub=box(), nucleus=nucleus, is_glyph=False)
        self.shifted((1000 - 390, 700 + 50), box(), box(), nucleus=nucleus, is_glyph=False)
        self.shifted((410, 250), box(), box(), nucleus=nucleus)
        self.shifted((410, 250), box(), box(), nucleus=box(9, -LIMIT, -LIMIT), is_glyph=False)
        self.shifted((LIMIT - 390, LIMIT + 50), box(), box(), nucleus=box(9, LIMIT, LIMIT), is_glyph=False)

    def test_drops_are_those_of_the_size_of_the_scripts(self):
        nucleus = box(0, 1000, 1000)
        for style, size in itertools.product(STYLES, range(3)):
            drop = 30 if size == SUP_SIZES[style] else 0
            fonts = fonts_with({("supdrop", size): 30, ("subdrop", size): 30})
            self.shifted((1000 - drop, 1000 + drop), box(), box(), style, nucleus, False, fonts)

    def test_depth_of_a_sup(self):
        self.shifted((410, None), box(0, 0, 410 - 107))
        self.shifted((411, None), box(0, 0, 411 - 107))
        self.shifted((LIMIT + 107, None), box(0, 0, LIMIT))
        self.shifted((410, None), box(0, 0, -LIMIT))
        for xheight, quarter in ((0, 0), (3, 0), (4, 1), (7, 1), (LIMIT, LIMIT // 4)):
            self.shifted((quarter + 5, None), box(0, 0, 5), fonts=fonts_with({"xheight": xheight}))

    def test_height_of_a_sub_alone(self):
        self.shifted((None, 150), sub=box(0, 344 + 150))
        self.shifted((None, 151), sub=box(0, 344 + 151))
        self.shifted((None, 150), sub=box(0, -LIMIT))
        self.shifted((None, LIMIT - 344), sub=box(0, LIMIT))
        for xheight, part in ((0, 0), (1, 0), (2, 1), (3, 2), (4, 3), (5, 4), (6, 4), (LIMIT, 4 * LIMIT // 5)):
            self.shifted((None, LIMIT - part), sub=box(0, LIMIT), fonts=fonts_with({"xheight": xheight}))

    def test_gap_that_is_just_enough(self):
        # The rise is 410, the fall 250; 4 * 40 is to be free between both.
        self.shifted((410, 250), box(), box(0, 410 + 250 - 160))
        # Behind it 4 * xheight // 5 is still lower than the sup.
        self.shifted((410, 251), box(), box(0, 410 + 250 - 159))
        self.shifted((410, 250), box(0, 0, 303), box(0, 107 + 250 - 160))
        self.shifted((647, 251 - 237), box(0, 0, 303), box(0, 107 + 250 - 159))
        self.shifted((410, 250), box(0, 0, 200), box(0, 300))
        self.shifted((411 + 134, 250 + 1 - 134 - 1), box(0, 0, 201), box(0, 300))

    def test_lift(self):
        # The sup's lower end is at 344 at least as soon as the gap has moved the sub.
        self.shifted((410, 450), box(0, 0, 66), box(0, 634))
        self.shifted((411, 450), box(0, 0, 67), box(0, 634))
        self.shifted((412, 450), box(0, 0, 68), box(0, 634))

    def test_no_rule(self):
        fonts = fonts_with({"xheight": 100, "sup1": 50, "sub2": 50})
        self.shifted((50, 50), box(0, 9, 0), box(0, 100, 9), fonts=fonts)
        self.shifted((80, 21), box(0, 9, 0), box(0, 101, 9), fonts=fonts)

    def test_great_numbers(self):
        fonts = fonts_with(dict.fromkeys(["xheight", "rule", "sup1", "sub2", "subdrop", "supdrop"], LIMIT))
        lowest = 4 * LIMIT // 5
        sup, sub = box(0, 0, LIMIT), box(0, LIMIT, 0)
        rise = LIMIT + LIMIT // 4
        fall = 4 * LIMIT + LIMIT - lowest
        self.shifted((rise + lowest - LIMIT // 4, fall), sup, sub, fonts=fonts)


class Scripted(Case):

    def test_sizes(self):
        nucleus, sup, sub = box(500, 400, 100), box(30, 200, 10), box(40, 300, 20)
        rows = [
            ((None, None), (500, 400, 100)), ((sup, None), (500 + 7 + 30 + 50, 410 + 200, 100)),
            ((None, sub), (500 + 40 + 50, 400, 150 + 20)), ((sup, sub), (500 + 90, 610, 250 + 20)),
            ((box(90), box(96)), (500 + 90 + 7 + 50, 410, 250)), ((box(90), box(98)), (500 + 98 + 50, 410, 250)),
        ]
        for (one, other), (width, height, depth) in rows:
            told = scripted(FONTS, 0, nucleus, True, 7, one, other)
            self.assertEqual(told, Box(width, height, depth))
        self.assertEqual(
            scripted(sub=sub, sup=sup, slant=7, is_glyph=True, nucleus=nucleus, style=0, fonts=FONTS),
            scripted(FONTS, 0, nucleus, True, 7, sup, sub))

    def test_never_below_nothing(self):
        nucleus = box(-500, -400, -300)
        self.assertEqual(scripted(FONTS, 0, nucleus, True, 9, None, None), Box(-500, 0, 0))
        self.assertEqual(scripted(FONTS, 0, nucleus, True, 9, box(-60, -411, -1), None), Box(-500, 0, 0))
        self.assertEqual(scripted(FONTS, 0, nucleus, True, 9, box(-58, -409, 0), None), Box(-499, 1, 0))
        self.assertEqual(scripted(FONTS, 0, nucleus, True, 9, None, box(-51, -1, -151)), Box(-500, 0, 0))
        self.assertEqual(scripted(FONTS, 0, nucleus, True, 9, None, box(-49, 151, -149)), Box(-499, 1, 1))

    def test_each_part_of_height_and_depth(self):
        nucleus = box(0, 5, 6)
        told = scripted(FONTS, 0, nucleus, True, 0, None, box(0, 344 + 150, 0))
        self.assertEqual((told.height, told.depth), (344, 150))
        told = scripted(FONTS, 0, nucleus, True, 0, box(0, -500, 303), None)
        self.assertEqual((told.height, told.depth), (5, 6))
        told = scripted(FONTS, 0, box(), True, 0, box(0, -500, 303), box(0, -600, -300))
        self.assertEqual((told.height, told.depth), (0, 0))

    def test_places_of_marks(self):
        nucleus = Box(500, 0, 0, [rule(1, 2), glyph(3, 4)])
        sup, sub = Box(1, 0, 0, [rule(10, 20), rule(30, 40)]), Box(2, 0, 0, [glyph(50, 60)])
        told = scripted(FONTS, 0, nucleus, True, 7, sup, sub)
        self.assertEqual(told.marks, [
            rule(1, 2), glyph(3, 4), rule(517, 430), rule(537, 450), glyph(550, 60 - 250),
        ])
        told = scripted(FONTS, 0, nucleus, True, 7, None, sub)
        self.assertEqual(told.marks, [rule(1, 2), glyph(3, 4), glyph(550, 60 - 150)])
        told = scripted(FONTS, 2, nucleus, True, 0, sup, None)
        self.assertEqual(told.marks, [rule(1, 2), glyph(3, 4), rule(510, 380), rule(530, 400)])

    def test_scriptspace_is_a_setting(self):
        for style in STYLES:
            told = scripted(fonts_with({}, {"scriptspace": LIMIT}), style, box(1), True, LIMIT, box(2), box(3))
            self.assertEqual(told.width, 1 + LIMIT + 2 + LIMIT)

    def test_shifts_of_each_style(self):
        numbers = {(word, size): 100 * at + size for at, (word, _) in enumerate(NUMBERS) for size in range(3)}
        fonts = fonts_with(numbers)
        sup, sub, nucleus = Box(0, 9, 30, [rule()]), Box(0, 70, 9, [glyph()]), box(0, 800, 900)
        for style, is_glyph in itertools.product(STYLES, (True, False)):
            for one, other in ((sup, sub), (sup, None), (None, sub)):
                rise, fall = shifts(fonts, style, nucleus, is_glyph, one, other)
                told = scripted(fonts, style, nucleus, is_glyph, 0, one, other)
                expected = [] if one is None else [rule(0, rise)]
                self.assertEqual(told.marks, expected + ([] if other is None else [glyph(0, -fall)]))

    def test_new(self):
        nucleus, sup, sub = (Box(1, 2, 3, [rule(at)]) for at in range(3))
        told = scripted(FONTS, 0, nucleus, True, 0, sup, sub)
        told.marks.clear()
        scripted(FONTS, 0, nucleus, True, 0, None, None).marks.clear()
        self.assertEqual([nucleus, sup, sub], [Box(1, 2, 3, [rule(at)]) for at in range(3)])
        self.assertEqual(FONTS, fonts_with(NUMBERS, {"scriptspace": 50}))


class Ruling(Case):

    def ruled(self, expected, sup=None, sub=None, nucleus=EMPTY, is_glyph=True, fonts=FONTS):
        self.assertEqual(ruling(fonts, 0, nucleus, is_glyph, sup, sub), expected)

    def test_example(self):
        self.ruled(("font", "font", "lift"), box(300, 300, 200), box(300, 500, 0))

    def test_rise(self):
        self.ruled(("font", None, None), box(0, 0, 303))
        self.ruled(("sup", None, None), box(0, 0, 304))
        self.ruled(("font", None, None), box(), nucleus=box(0, 799), is_glyph=False)
        self.ruled(("nucleus", None, None), box(), nucleus=box(0, 800), is_glyph=False)
        self.ruled(("nucleus", None, None), box(0, 0, 303), nucleus=box(0, 800), is_glyph=False)
        self.ruled(("sup", None, None), box(0, 0, 304), nucleus=box(0, 800), is_glyph=False)
        self.ruled(("nucleus", None, None), box(0, 0, 304), nucleus=box(0, 801), is_glyph=False)

    def test_fall(self):
        self.ruled((None, "font", None), sub=box(0, 494))
        self.ruled((None, "sub", None), sub=box(0, 495))
        self.ruled((None, "font", None), sub=box(), nucleus=box(0, 0, 99), is_glyph=False)
        self.ruled((None, "nucleus", None), sub=box(), nucleus=box(0, 0, 100), is_glyph=False)
        self.ruled((None, "sub", None), sub=box(0, 496), nucleus=box(0, 0, 101), is_glyph=False)
        self.ruled((None, "nucleus", None), sub=box(0, 495), nucleus=box(0, 0, 101), is_glyph=False)

    def test_all_alike(self):
        self.ruled(("nucleus", "nucleus", None), box(), box(), fonts=fonts_with())
        self.ruled(("nucleus", None, None), box(), fonts=fonts_with())
        self.ruled((None, "nucleus", None), sub=box(), fonts=fonts_with())
        self.ruled((None, None, None), fonts=fonts_with())

    def test_both(self):
        self.ruled(("font", "font", None), box(), box(0, 500))
        self.ruled(("font", "font", "gap"), box(), box(0, 501))
        self.ruled(("sup", "font", "lift"), box(0, 0, 304), box(0, 501))
        self.ruled(("font", "nucleus", None), box(), box(0, 501), box(0, 0, 201), False)
        self.ruled(("font", "nucleus", "gap"), box(), box(0, 502), box(0, 0, 201), False)
        # A sub that has a sup beside it is never ruled by its own height.
        self.ruled(("font", "font", "gap"), box(), box(0, 9000))

    def test_lift_or_gap(self):
        self.ruled(("font", "font", "gap"), box(0, 0, 66), box(0, 634))
        self.ruled(("font", "font", "lift"), box(0, 0, 67), box(0, 634))

    def test_tuple(self):
        self.assertIs(ruling(FONTS, 0, EMPTY, True, None, None).__class__, tuple)
        self.assertEqual(ruling(sub=None, sup=EMPTY, is_glyph=True, nucleus=EMPTY, style=0, fonts=FONTS), ("font", None, None))


class Rooms(Case):

    def roomy(self, expected, sup=None, sub=None, nucleus=EMPTY, is_glyph=True):
        self.assertEqual(rooms(FONTS, 0, nucleus, is_glyph, sup, sub), expected)

    def test_example(self):
        self.roomy((200, 200), box(300, 300, 0), box(300, 300, 0))

    def test_one_script(self):
        self.roomy((None, None))
        self.roomy((303, None), box())
        self.roomy((0, None), box(0, 0, 303))
        self.roomy((0, None), box(0, 0, 999))
        self.roomy((303 + LIMIT, None), box(0, 0, -LIMIT))
        self.roomy((None, 494), sub=box())
        self.roomy((None, 0), sub=box(0, 494))
        self.roomy((None, 0), sub=box(0, 495))
        self.roomy((503, None), box(), nucleus=box(0, 1000), is_glyph=False)
        self.roomy((None, 794), sub=box(), nucleus=box(0, 0, 400), is_glyph=False)

    def test_both(self):
        self.roomy((303, 500), box(), box())
        self.roomy((0, 0), box(), box(0, 500))
        self.roomy((0, 0), box(), box(0, 501))
        self.roomy((0, 197), box(0, 0, 304), box())
        self.roomy((197, 394), box(0, 0, 106), box())
        self.roomy((0, 0), box(300, 300, 200), box(300, 500, 0))

    def test_as_told(self):
        chance = random.Random(7)
        for _ in range(400):
            fonts = fonts_with({word: chance.randrange(9) for word in {word for word, _ in NUMBERS}})
            style, is_glyph = chance.randrange(8), chance.random() < 0.5
            nucleus = box(1, chance.randrange(-5, 15), chance.randrange(-5, 9))
            sup, sub = (box(1, chance.randrange(-5, 15), chance.randrange(-9, 15)) for _ in range(2))
            for one, other in ((sup, sub), (sup, None), (None, sub)):
                told = rooms(fonts, style, nucleus, is_glyph, one, other)
                self.assertEqual(told, self.slowly(fonts, style, nucleus, is_glyph, one, other))

    def slowly(self, fonts, style, nucleus, is_glyph, sup, sub):
        now = shifts(fonts, style, nucleus, is_glyph, sup, sub)
        found = [None, None]
        for more in range(90):
            deeper = sup and box(sup.width, sup.height, sup.depth + more)
            higher = sub and box(sub.width, sub.height + more, sub.depth)
            if sup and shifts(fonts, style, nucleus, is_glyph, deeper, sub) == now:
                found[0] = more
            if sub and shifts(fonts, style, nucleus, is_glyph, sup, higher) == now:
                found[1] = more
        return tuple(found)


class Facts(Case):

    def test_facts(self):
        chance = random.Random(11)
        for _ in range(800):
            numbers = {word: chance.randrange(40) for word in {word for word, _ in NUMBERS}}
            fonts = fonts_with(numbers)
            style, is_glyph = chance.randrange(8), chance.random() < 0.5
            nucleus, sup, sub = (box(1, chance.randrange(-30, 99), chance.randrange(-30, 60)) for _ in range(3))
            xheight, thick = numbers["xheight"], numbers["rule"]
            alone = shifts(fonts, style, nucleus, is_glyph, sup, None)[0]
            self.assertGreaterEqual(alone - sup.depth, xheight // 4)
            lower = shifts(fonts, style, nucleus, is_glyph, None, sub)[1]
            self.assertLessEqual(sub.height - lower, 4 * xheight // 5)
            rise, fall = shifts(fonts, style, nucleus, is_glyph, sup, sub)
            self.assertGreaterEqual((rise - sup.depth) - (sub.height - fall), 4 * thick)
            self.assertGreaterEqual(rise - sup.depth, xheight // 4)
            self.follows(fonts, style, nucleus, is_glyph, sup, sub, (rise, fall))

    def follows(self, fonts, style, nucleus, is_glyph, sup, sub, told):
        """What ruling tells is what shifts do."""
        words = ruling(fonts, style, nucleus, is_glyph, sup, sub)
        alone = shifts(fonts, style, nucleus, is_glyph, sup, None)[0]
        self.assertEqual(words[2] == "lift", told[0] > alone)
        size = SIZES[style]
        first = max(fonts.number_at("sub2", size), 0 if is_glyph else
                    nucleus.depth + fonts.number_at("subdrop", SUP_SIZES[style]))
        if words[2] is None:
            self.assertEqual(told, (alone, first))
        if words[2] == "gap":
            self.assertGreater(told[1], first)
            self.assertEqual(told[0] - sup.depth - sub.height + told[1], 4 * fonts.number_at("rule", size))


class WrongArguments(Case):

    def test_in_order(self):
        flags = [None, 0, 1, "True", (True,)] + [value for value in odd_values() if value.__class__ is not bool]
        names = [
            ("fonts", no_fonts()), ("style", no_styles()), ("nucleus", [None] + no_boxes()), ("is_glyph", flags),
            ("slant", no_amounts()), ("sup", [0] + self.no_scripts()), ("sub", [0] + self.no_scripts()),
        ]
        right = {
            "fonts": FONTS, "style": 7, "nucleus": EMPTY, "is_glyph": False, "slant": LIMIT,
            "sup": Box(LIMIT, LIMIT, LIMIT, [rule(LIMIT)]), "sub": Box(-LIMIT, -LIMIT, -LIMIT, [glyph(-LIMIT)]),
        }
        for function in (scripted, shifts, ruling, rooms):
            there = {name for name in right if name != "slant" or function is scripted}
            wrong = [(name, values, InvalidArgument, {"part": name}) for name, values in names if name in there]
            self.assertRefuses(function, {name: right[name] for name in right if name in there}, wrong)

    def no_scripts(self):
        return [value for value in no_boxes() if value is not None]


if __name__ == "__main__":
    unittest.main()
