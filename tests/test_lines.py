"""Displays broken into lines (points 67 to 73)."""

import copy
import itertools
import random
import unittest

from mathboxes.boxes import Box, beside
from mathboxes.errors import InvalidArgument, InvalidFormula, InvalidNumber, LimitExceeded, NoGlyph
from mathboxes.layout import layout, parts_of
from mathboxes.lines import break_places, broken, least_page, line_costs, lines_box, pages
from tests.chance import NAMES, Maker, chance_fonts
from tests.samples import (
    LIMIT, Case, fonts_with, nest, no_amounts, no_fonts, no_styles, odd_values, symbol,
)

MIDDLE = ("middle", None)


def kern(width):
    return ("kern", width, "units")


def wide(width, kind="ord"):
    """An atom of a class, so wide."""
    return ("list", kind, [kern(width)], None, None)


def line_fonts(settings=(), numbers=()):
    return fonts_with(dict(numbers), dict(settings))


def lines_of(*widths, kinds=None):
    """A formula whose places for breaks behind are at the ends of parts that are so wide."""
    formula = []
    for at, width in enumerate(widths[:-1]):
        formula.extend([wide(width), wide(0, kinds[at] if kinds else "bin")])
    return formula + [wide(widths[-1])]


class Told:
    """All lists of breaks of a formula, with what the points tell of them, one by one."""

    def __init__(self, fonts, formula, style, where):
        self.indent = fonts.number_at("indent", None)
        self.parts = parts_of(fonts, formula, style)
        self.classes = dict(break_places(fonts, formula, style, where))
        self.places = sorted(self.classes)
        self.lists = [
            list(breaks) for many in range(len(self.places) + 1)
            for breaks in itertools.combinations(self.places, many)
        ]
        self.known = {tuple(breaks): self.needs(breaks) for breaks in self.lists}

    def needs(self, breaks):
        found = []
        for first, end in zip([0] + breaks, breaks + [len(self.parts)]):
            line = self.parts[first:end]
            width = sum(box.width for _, _, _, box in line) + sum(space for _, _, space, _ in line[1:])
            found.append(width + (self.indent if first > 0 else 0))
        return found

    def key(self, breaks, width, costs):
        needs = self.known[tuple(breaks)]
        excess = sum(max(0, need - width) for need in needs)
        badness = sum((width - need) ** 2 for need in needs[:-1] if need <= width)
        badness += sum(costs[("bin", "rel").index(self.classes[place])] for place in breaks)
        return excess, badness, len(breaks), breaks

    def best(self, width, costs):
        return min(self.lists, key=lambda breaks: self.key(breaks, width, costs))


class Places(Case):

    def places(self, formula, behind, ahead, style=2):
        self.assertEqual(break_places(line_fonts(), formula, style, "behind"), behind)
        self.assertEqual(break_places(line_fonts(), formula, style, "ahead"), ahead)

    def test_classes(self):
        a = wide(1)
        for style in range(8):
            for kind in ("op", "ord", "open", "close", "punct", "inner"):
                self.places([a, wide(1, kind), a], [], [], style)
            for kind in ("bin", "rel"):
                self.places([a, wide(1, kind), a], [(2, kind)], [(1, kind)], style)
        self.places([a, wide(1, "rel"), a, wide(2, "bin"), a], [(2, "rel"), (4, "bin")], [(1, "rel"), (3, "bin")])

    def test_classes_in_the_end(self):
        a = wide(1)
        self.places([wide(1, "bin"), a], [], [])
        self.places([a, wide(1, "bin"), wide(1, "bin"), a], [(2, "bin")], [(1, "bin")])
        self.places([a, wide(1, "bin"), wide(1, "rel"), a], [(3, "rel")], [(2, "rel")])
        self.places([a, wide(1, "bin")], [], [])

    def test_ends_of_the_row(self):
        self.places([wide(1, "rel")], [], [])
        self.places([wide(1, "rel"), wide(1, "rel")], [(1, "rel")], [(1, "rel")])
        self.places([wide(1, "rel"), kern(5)], [(1, "rel")], [])
        self.places([kern(5), wide(1, "rel")], [], [(1, "rel")])
        self.places([], [], [])

    def test_top_level_alone(self):
        row = [wide(1), wide(2, "rel"), wide(3)]
        self.places([("list", "ord", row, row, row)], [], [])
        self.places([("choice", [], row, [], [])], [(2, "rel")], [(1, "rel")])
        self.places([("choice", [], row, [], [])], [], [], 4)

    def test_places_of_joined_symbols(self):
        glyph = (5, 5, 5, 0, None, None)
        fonts = fonts_with({}, {}, {"a": glyph, "b": glyph}, {("a", "a"): ("join", "b")})
        row = [symbol(), symbol(), symbol("b", kind="rel"), symbol(), symbol()]
        self.assertEqual(break_places(fonts, row, 2, "behind"), [(2, "rel")])
        self.assertEqual(break_places(where="ahead", style=2, formula=row, fonts=fonts), [(1, "rel")])


class Lines(Case):

    def test_below_one_another(self):
        glyphs = {"a": (100, 40, 5, 3, None, None), "r": (30, 70, 9, 0, None, None), "b": (50, 10, 60, 0, None, None)}
        for baseline, first, second in ((0, 5 + 7 + 70, 60 + 7 + 70), (500, 500, 500), (100, 100, 137)):
            fonts = fonts_with({("quad", 0): 1800}, {"thick": 1, "indent": 20, "apart": 7, "baseline": baseline}, glyphs)
            row = [symbol("a"), symbol("r", kind="rel"), symbol("b"), symbol("r", kind="rel"), symbol("a")]
            told = lines_box(fonts, row, 2, "ahead", [1, 3])
            self.assertEqual((told.width, told.height, told.depth), (20 + 30 + 100 + 103, 40, first + second + 9))
            self.assertEqual([(x, y) for x, y, _ in told.marks], [
                (0, 0), (20, -first), (150, -first), (20, -first - second), (150, -first - second),
            ])
            self.assertEqual([mark[1] for _, _, mark in told.marks], [(0,), (1,), (2,), (3,), (4,)])
            told = lines_box(fonts, row, 2, "behind", [4])
            self.assertEqual([(x, y) for x, y, _ in told.marks][:4], [(0, 0), (203, 0), (333, 0), (483, 0)])
            self.assertEqual(told.marks[4][0], 20)
            self.assertEqual(told.width, 513)

    def test_no_breaks(self):
        chance = random.Random(1)
        for _ in range(60):
            fonts, formula, style = chance_fonts(chance), Maker(chance).formula(), chance.randrange(8)
            whole = layout(fonts, formula, style)
            expected = Box(max(0, whole.width), whole.height, whole.depth, whole.marks)
            self.assertEqual(lines_box(fonts, formula, style, "ahead", []), expected)

    def test_only_the_first_space_falls_away(self):
        fonts = line_fonts({"thick": 1}, {"quad": 1800})
        row = [wide(10), kern(5), wide(20, "rel"), kern(7), wide(30)]
        self.assertEqual(lines_box(fonts, row, 2, "ahead", [2]).width, 20 + 7 + 100 + 30)
        # The kern begins the line, so the space behind it stays.
        self.assertEqual(lines_box(fonts, row, 2, "behind", [3]).width, 7 + 100 + 30)
        self.assertEqual(lines_box(fonts, row, 2, "behind", []).width, 10 + 5 + 100 + 20 + 7 + 100 + 30)

    def test_classes_stay(self):
        fonts = line_fonts({"medium": 1, "indent": 3}, {"quad": 1800})
        row = [wide(10), wide(20, "bin"), wide(30)]
        # The bin would be an ord at the beginning of a row.
        self.assertEqual(lines_box(fonts, row, 2, "ahead", [1]).width, 3 + 20 + 100 + 30)
        self.assertEqual(lines_box(fonts, row, 2, "behind", [2]).width, 10 + 100 + 20)

    def test_kerns_of_pairs(self):
        glyph = (10, 5, 5, 0, None, None)
        fonts = fonts_with({}, {"indent": 2}, {"a": glyph, "b": glyph}, {("a", "b"): ("kern", 4)})
        row = [symbol("a"), symbol("b", kind="rel"), symbol("a")]
        told = lines_box(fonts, row, 2, "ahead", [1])
        self.assertEqual(told.width, 22)
        self.assertEqual(line_costs(fonts, row, 2, "ahead", [1], 20, (0, 0)), (2, (20 - 14) ** 2))

    def test_widths_below_nothing(self):
        fonts = line_fonts({"indent": 3})
        row = [wide(-50), wide(0, "rel"), wide(-60)]
        self.assertEqual(lines_box(fonts, row, 2, "behind", [2]), Box(0, 0, 0))
        self.assertEqual(lines_box(fonts, row, 2, "behind", []), Box(0, 0, 0))
        self.assertEqual(line_costs(fonts, row, 2, "behind", [2], 0, (0, 0)), (0, 2500))

    def test_empty(self):
        for style in range(8):
            for where in ("behind", "ahead"):
                self.assertEqual(lines_box(line_fonts(), [], style, where, []), Box(0, 0, 0))
                self.assertEqual(line_costs(line_fonts(), [], style, where, [], 5, (0, 0)), (0, 0))
                self.assertEqual(broken(line_fonts(), [], style, where, 5, (0, 0)), [])
                self.assertEqual(least_page(line_fonts(), [], style, where, 1), 0)
                self.assertEqual(pages(line_fonts(), [], style, where, (0, 0), 3, 9), [(3, 9, [])])

    def test_as_told(self):
        chance = random.Random(2)
        for _ in range(40):
            fonts = chance_fonts(chance)
            formula = some_row(chance, 12)
            where = chance.choice(["behind", "ahead"])
            told = Told(fonts, formula, 2, where)
            breaks = chance.choice(told.lists)
            box = lines_box(fonts, formula, 2, where, breaks)
            y, marks, width, lines = 0, [], 0, []
            for first, end in zip([0] + breaks, breaks + [len(told.parts)]):
                boxes = []
                for _, _, space, part in told.parts[first:end]:
                    boxes.extend([Box(space if boxes else 0, 0, 0), part])
                lines.append(beside(boxes))
                if first > 0:
                    y -= max(fonts.number_at("baseline", None), lines[-2].depth + fonts.number_at("apart", None) + lines[-1].height)
                indent = told.indent if first > 0 else 0
                marks.extend([(x + indent, up + y, mark) for x, up, mark in lines[-1].marks])
                width = max(width, lines[-1].width + indent)
            self.assertEqual(box, Box(width, lines[0].height, lines[-1].depth - y, marks))


def some_row(chance, most):
    """A row of symbols, of which many are bins and rels."""
    found = []
    for _ in range(chance.randrange(most)):
        kind = chance.choice(["bin", "bin", "rel", "ord", "ord", "ord", "kern"])
        name = chance.choice(NAMES)
        found.append(kern(chance.randrange(-50, 50)) if kind == "kern" else symbol(name, kind=kind))
    return found


class Costs(Case):

    def test_example(self):
        row = lines_of(70, 110, 20, kinds=["bin", "rel"])
        self.assertEqual(line_costs(line_fonts(), row, 2, "behind", [2, 4], 100, (3, 1)), (10, 904))

    def test_excess_and_badness(self):
        fonts = line_fonts({"indent": 5})
        row = lines_of(70, 105, 20, kinds=["rel", "bin"])
        for breaks, width, expected in (
            ([2, 4], 100, (10, 900 + 8)), ([2, 4], 110, (0, 1600 + 0 + 8)), ([2, 4], 109, (1, 39 * 39 + 8)),
            ([2, 4], 111, (0, 41 * 41 + 1 + 8)), ([2, 4], 70, (40, 8)), ([2, 4], 69, (42, 8)), ([2, 4], 0, (70 + 110 + 25, 8)),
            ([], 100, (95, 0)), ([], 195, (0, 0)), ([], 194, (1, 0)), ([], LIMIT, (0, 0)), ([2], 130, (0, 3600 + 1)),
            ([2], 129, (1, 59 * 59 + 1)), ([4], 175, (0, 7)), ([4], LIMIT, (0, (LIMIT - 175) ** 2 + 7)),
        ):
            self.assertEqual(line_costs(fonts, row, 2, "behind", breaks, width, (7, 1)), expected, (breaks, width))
        told = line_costs(costs=(7, 1), width=100, breaks=[2, 4], where="behind", style=2, formula=row, fonts=fonts)
        self.assertEqual(told, (10, 908))


class Best(Case):

    def test_few(self):
        row = lines_of(50, 50, 50)
        for width, costs, expected in (
            (150, (0, 0), []), (149, (0, 0), [4]), (100, (0, 0), [4]), (99, (0, 0), [2, 4]), (50, (0, 0), [2, 4]),
            (0, (0, 0), []), (149, (10 ** 9, 0), [4]), (49, (0, 0), [2, 4]), (49, (9, 9), [2, 4]),
        ):
            told = broken(line_fonts(), row, 2, "behind", width, costs)
            self.assertEqual(told, Told(line_fonts(), row, 2, "behind").best(width, costs))
            if width > 0:
                self.assertEqual(told, expected, width)

    def test_equally_good(self):
        # Two lists of as many breaks are equally good: the first one is taken.
        row = lines_of(50, 0, 50)
        self.assertEqual(broken(line_fonts(), row, 2, "behind", 50, (0, 0)), [2])
        self.assertEqual(broken(line_fonts(), row, 2, "behind", 60, (3, 3)), [2])
        # The costs decide, or else fewer breaks.
        mixed = lines_of(50, 0, 50, kinds=["bin", "rel"])
        self.assertEqual(broken(line_fonts(), mixed, 2, "behind", 50, (1, 0)), [4])
        self.assertEqual(broken(line_fonts(), mixed, 2, "behind", 50, (0, 1)), [2])
        self.assertEqual(broken(line_fonts(), lines_of(0, 0, 0), 2, "behind", 0, (0, 0)), [])
        # (60 - 40) ** 2 and 20 for the break are as much as (60 - 20) ** 2 less what the costs make up for.
        self.assertEqual(broken(line_fonts(), lines_of(20, 20, 30, kinds=["bin", "rel"]), 2, "behind", 60, (0, 1200)), [2])
        self.assertEqual(broken(line_fonts(), lines_of(20, 20, 30, kinds=["bin", "rel"]), 2, "behind", 60, (0, 1199)), [4])

    def test_fewest_breaks(self):
        # The space behind the rel falls away at 4; a break at 2 does neither good nor harm, but is one more.
        fonts = line_fonts({"thick": 1, "indent": 50}, {"quad": 180})
        row = [wide(60), wide(0, "bin"), wide(0), wide(0, "rel"), wide(0)]
        for breaks, excess in (([], 30), ([2], 30), ([4], 20), ([2, 4], 20)):
            self.assertEqual(line_costs(fonts, row, 2, "behind", breaks, 50, (0, 0)), (excess, 0))
        self.assertEqual(broken(fonts, row, 2, "behind", 50, (0, 0)), [4])
        self.assertEqual(pages(fonts, row, 2, "behind", (0, 0), 50, 50), [(50, 50, [4])])

    def test_badness_that_crosses_between_needs(self):
        rows = [
            ([38, 13, 35, 18], (646, 81), [(48, 58, [2, 6]), (59, 65, [4]), (66, 66, [2]), (67, 85, [4]), (86, 103, [6])]),
            ([28, 5, 38, 12], (847, 273), [(43, 52, [2, 6]), (53, 54, [4]), (55, 70, [2]), (71, 82, [6])]),
            ([13, 12, 13, 12], (719, 115), [(25, 35, [2, 6]), (36, 36, [4]), (37, 37, [2]), (38, 49, [6])]),
        ]
        for widths, costs, expected in rows:
            row = lines_of(*widths, kinds=["rel", "bin", "rel"])
            first, last = expected[0][0], expected[-1][1]
            self.assertEqual(pages(line_fonts(), row, 2, "behind", costs, first, last), expected)
            one_by_one = Told(line_fonts(), row, 2, "behind")
            self.follows(expected, first, last, [(width, one_by_one.best(width, costs)) for width in range(first, last + 1)])

    def test_all_widths(self):
        chance = random.Random(3)
        for _ in range(60):
            fonts = chance_fonts(chance, chance.choice([10, 30, 100]))
            formula = some_row(chance, 13)
            where = chance.choice(["behind", "ahead"])
            costs = chance.choice([(0, 0), (3, 1), (chance.randrange(2000), chance.randrange(2000))])
            told = Told(fonts, formula, 2, where)
            whole = max(0, told.known[()][0])
            found = []
            for width in range(whole + 3) if whole < 150 else sorted(chance.sample(range(whole + 3), 60)):
                best = told.best(width, costs)
                found.append((width, best))
                self.assertEqual(broken(fonts, formula, 2, where, width, costs), best)
                self.assertEqual(line_costs(fonts, formula, 2, where, best, width, costs), told.key(best, width, costs)[:2])
            self.follows(pages(fonts, formula, 2, where, costs, 0, whole + 2), 0, whole + 2, found)
            for most in (1, 2, 3, len(told.places) + 1, LIMIT):
                least = min(max([0] + told.known[tuple(breaks)]) for breaks in told.lists if len(breaks) < most)
                self.assertEqual(least_page(fonts, formula, 2, where, most), least)

    def follows(self, told, first, last, found):
        """What pages tell is without gaps, and as what was found for single widths."""
        self.assertEqual((told[0][0], told[-1][1]), (first, last))
        for one, other in zip(told, told[1:]):
            self.assertEqual(one[1] + 1, other[0])
            self.assertNotEqual(one[2], other[2])
        for begin, end, _ in told:
            self.assertLessEqual(begin, end)
        for width, breaks in found:
            self.assertEqual([there for begin, end, there in told if begin <= width <= end], [breaks])

    def test_pages_of_some_widths(self):
        row = lines_of(50, 50, 50)
        self.assertEqual(pages(line_fonts(), row, 2, "behind", (0, 0), 60, 60), [(60, 60, [2, 4])])
        self.assertEqual(pages(line_fonts(), row, 2, "behind", (0, 0), 99, 160), [(99, 99, [2, 4]), (100, 149, [4]), (150, 160, [])])
        self.assertEqual(
            pages(last=LIMIT, first=149, costs=(0, 0), where="behind", style=2, formula=row, fonts=line_fonts()),
            [(149, 149, [4]), (150, LIMIT, [])])

    def test_stretch_of_one_width(self):
        # At 60 both lists are as good as one another, as (60 - 20) ** 2 and (60 - 40) ** 2 + 1200 are the same.
        row = lines_of(20, 20, 30, kinds=["bin", "rel"])
        told = pages(line_fonts(), row, 2, "behind", (0, 1200), 55, 69)
        self.assertEqual(told, [(55, 60, [2]), (61, 69, [4])])
        # Breaks with less excess only at one width.
        chance = random.Random(9)
        single = 0
        for _ in range(200):
            row = lines_of(*[chance.randrange(30) for _ in range(5)], kinds=[chance.choice(["bin", "rel"]) for _ in range(4)])
            costs = (chance.randrange(40), chance.randrange(40))
            told = pages(line_fonts(), row, 2, "behind", costs, 0, 160)
            single += sum(1 for begin, end, _ in told if begin == end)
            one_by_one = Told(line_fonts(), row, 2, "behind")
            self.follows(told, 0, 160, [(width, one_by_one.best(width, costs)) for width in range(0, 161, 3)])
        self.assertGreater(single, 20)

    def test_least_page(self):
        row = lines_of(70, 110, 20, 40)
        fonts = line_fonts({"indent": 5})
        for most, least in ((1, 240), (2, 175), (3, 115), (4, 115), (5, 115), (LIMIT, 115)):
            self.assertEqual(least_page(fonts, row, 2, "behind", most), least, most)
        self.assertEqual(least_page(most=1, where="behind", style=2, formula=[wide(-9)], fonts=fonts), 0)

    def test_facts(self):
        chance = random.Random(4)
        for _ in range(60):
            fonts, formula = chance_fonts(chance, 60), some_row(chance, 20)
            told = break_places(fonts, formula, 2, "ahead")
            needed = max(0, line_need(fonts, formula))
            self.assertEqual(broken(fonts, formula, 2, "ahead", needed, (0, 0)), [])
            least = [least_page(fonts, formula, 2, "ahead", most) for most in range(1, len(told) + 3)]
            self.assertEqual(least, sorted(least, reverse=True))
            self.assertEqual(least[0], needed)
            for most, width in enumerate(least, start=1):
                breaks = broken(fonts, formula, 2, "ahead", width, (0, 0))
                self.assertEqual(line_costs(fonts, formula, 2, "ahead", breaks, width, (0, 0))[0], 0)
            if least[-1] > 0:
                breaks = broken(fonts, formula, 2, "ahead", least[-1] - 1, (0, 0))
                self.assertGreater(line_costs(fonts, formula, 2, "ahead", breaks, least[-1] - 1, (0, 0))[0], 0)


def line_need(fonts, formula):
    return layout(fonts, formula, 2).width


class Limits(Case):

    def long_row(self, many):
        widths = [(7 * at * at + 13 * at) % 97 for at in range(many + 1)]
        return lines_of(*widths, kinds=[("bin", "rel", "rel")[at % 3] for at in range(many)])

    def test_24_places(self):
        fonts = line_fonts({"indent": 9, "thick": 3, "medium": 2}, {"quad": 18})
        row = self.long_row(24)
        self.assertEqual(len(break_places(fonts, row, 2, "behind")), 24)
        for costs in ((0, 0), (50, 3), (LIMIT, LIMIT)):
            told = pages(fonts, row, 2, "behind", costs, 0, LIMIT)
            self.assertEqual(told[-1][2], [])
            for begin, end, breaks in told:
                for width in {begin, end, (begin + end) // 2}:
                    self.assertEqual(broken(fonts, row, 2, "behind", width, costs), breaks)
        whole = line_need(fonts, row)
        self.assertEqual(told[-1][0], whole)
        self.assertEqual(least_page(fonts, row, 2, "behind", 1), whole)
        self.assertEqual(least_page(fonts, row, 2, "behind", 25), least_page(fonts, row, 2, "behind", LIMIT))

    def test_25_places(self):
        fonts = line_fonts()
        row = self.long_row(25)
        rest = {
            break_places: (), lines_box: (None,), line_costs: (None, None, None), broken: (None, None),
            least_page: (None,), pages: (None, None, None),
        }
        for function, more in rest.items():
            for where in ("behind", "ahead"):
                self.assertTells(LimitExceeded, {"limit": 24}, function, fonts, row, 2, where, *more)
        # A break ahead of the first place does not count.
        row = [wide(1, "rel")] + self.long_row(24)
        self.assertEqual(len(break_places(fonts, row, 2, "ahead")), 24)
        self.assertTells(LimitExceeded, {"limit": 24}, break_places, fonts, row, 2, "behind")

    def test_great_widths(self):
        row = lines_of(LIMIT, LIMIT, 5)
        fonts = line_fonts()
        self.assertEqual(least_page(fonts, row, 2, "behind", 3), LIMIT)
        told = pages(fonts, row, 2, "behind", (0, 0), 0, LIMIT)
        self.assertEqual([told[0][0], told[-1][1], told[-1][2]], [0, LIMIT, [2, 4]])
        self.assertEqual(broken(fonts, row, 2, "behind", LIMIT, (1, 1)), [2, 4])


class WrongArguments(Case):

    FUNCTIONS = {
        break_places: {},
        lines_box: {"breaks": [2]},
        line_costs: {"breaks": [2, 4], "width": LIMIT, "costs": (LIMIT, 0)},
        broken: {"width": 0, "costs": (0, LIMIT)},
        least_page: {"most": 1},
        pages: {"costs": (0, 0), "first": 5, "last": 5},
    }

    def wrong(self):
        numbers = [-1, LIMIT + 1, None] + odd_values()
        breaks = [None, 0, (2,), [0], [1], [3], [5], [6], [2, 2], [4, 2], [2, 4, 4], [-1], [None], {2: 4}]
        breaks += [[2, value] for value in odd_values()] + [[value] for value in odd_values()] + [
            value for value in odd_values() if value != []
        ]
        costs = [None, 0, (), (1,), (1, 2, 3), [1, 2], {1: 2}] + odd_values()
        costs += [(value, 0) for value in no_amounts()] + [(0, value) for value in no_amounts()]
        return {
            "breaks": [("breaks", [value], InvalidArgument, {"part": "breaks"}) for value in breaks],
            "width": [("width", [value], InvalidNumber, {"number": value}) for value in numbers],
            "costs": [("costs", [value], InvalidArgument, {"part": "costs"}) for value in costs],
            "most": [("most", [value], InvalidNumber, {"number": value}) for value in [0] + [
                value for value in numbers if value.__class__ is not int or value < 1]],
            "first": [("first", [value], InvalidNumber, {"number": value}) for value in numbers],
            "last": [("last", [value], InvalidNumber, {"number": value}) for value in [4, 0] + numbers],
        }

    def test_first_ones(self):
        values = [None, 0, "", "Behind", "below", ("behind",)] + odd_values()
        right = {"fonts": line_fonts(), "formula": lines_of(1, 2, 3), "style": 7, "where": "behind"}
        formulas = [[("style", True)], [MIDDLE], nest(7)]
        for function, more in self.FUNCTIONS.items():
            later = [(name, [None], InvalidNumber, {"number": None}) for name in more if name in ("width", "most", "first", "last")]
            later = [entry for entry in later if entry[0] == list(more)[0]]
            for formula, path in zip(formulas, [(0,), (0,), (0, 2, 0, 2, 0, 2, 0, 2, 0, 2, 0, 2)]):
                self.assertRefuses(function, {**right, **more}, [
                    ("fonts", no_fonts(), InvalidArgument, {"part": "fonts"}),
                    ("formula", [formula], InvalidFormula, {"path": path}),
                    ("style", no_styles(), InvalidArgument, {"part": "style"}),
                    ("where", values, InvalidArgument, {"part": "where"}),
                ] + later)

    def test_glyph_that_lacks(self):
        lacking = lines_of(*range(30)) + [symbol("zz")]
        for function, more in self.FUNCTIONS.items():
            wrong = {name: None for name in more}
            right = {"fonts": line_fonts(), "formula": lines_of(1, 2, 3), "style": 0, "where": "behind"}
            self.assertTells(NoGlyph, {"family": 0, "name": "zz"}, function, **{**right, **wrong, "formula": lacking})
            with self.assertRaises(InvalidArgument) as caught:
                function(**{**right, **wrong, "formula": lacking, "where": "Behind"})
            self.assertEqual(caught.exception.part, "where")

    def test_last_ones(self):
        right = {"fonts": line_fonts(), "formula": lines_of(1, 2, 3), "style": 0, "where": "behind"}
        wrong = self.wrong()
        for function, more in self.FUNCTIONS.items():
            names = list(more)
            for at, name in enumerate(names):
                behind = [wrong[other][0] for other in names[at + 1:]]
                for entry in wrong[name]:
                    self.assertRefuses(function, {**right, **more}, [entry] + behind)

    def test_nothing_is_changed_or_kept(self):
        chance = random.Random(5)
        for _ in range(20):
            fonts, formula = chance_fonts(chance, 50), some_row(chance, 12)
            other = copy.deepcopy(fonts)
            breaks = [place for place, _ in break_places(fonts, formula, 2, "ahead")]
            self.assertLeaves(lambda given: break_places(fonts, given, 2, "ahead"), formula)
            self.assertLeaves(lambda given, ends: lines_box(fonts, given, 2, "ahead", ends).marks, formula, breaks)
            self.assertLeaves(lambda given, ends: line_costs(fonts, given, 2, "ahead", ends, 9, (1, 2)), formula, breaks)
            self.assertLeaves(lambda given: broken(fonts, given, 2, "ahead", 9, (1, 2)), formula)
            self.assertLeaves(lambda given: pages(fonts, given, 2, "ahead", (1, 2), 0, 999), formula)
            self.assertEqual(fonts, other)
        told = pages(line_fonts(), lines_of(5, 5, 5), 2, "behind", (0, 0), 0, 99)
        self.assertTrue(all(entry.__class__ is tuple and entry[2].__class__ is list for entry in told))


if __name__ == "__main__":
    unittest.main()
