"""Tables (points 61 to 66)."""

import itertools
import random
import unittest

from mathboxes.boxes import Box
from mathboxes.errors import InvalidArgument
from mathboxes.layout import layout
from mathboxes.tables import table_grid, table_rooms, tabled
from tests.samples import LIMIT, Case, fonts_with, glyph, no_boxes, no_fonts, no_styles, odd_values, rule, symbol

SIZES = (0, 0, 0, 0, 1, 1, 2, 2)
EMPTY = Box(0, 0, 0)


def half(number):
    return (number + 1) // 2


def box(width=0, height=0, depth=0, marks=()):
    return Box(width, height, depth, marks)


def table_fonts(thick=10, axis=0, column=100, apart=20, baseline=0):
    return fonts_with({"rule": thick, "axis": axis}, {"column": column, "apart": apart, "baseline": baseline})


class Across(Case):

    def lefts(self, columns, expected, width, column=101, thick=10):
        """The left ends of columns that are 1, 2, 3 .. hundred wide, the whole width, and the bars."""
        many = len(columns.replace("|", ""))
        fonts = table_fonts(thick, column=column)
        rows = [[box(100 * at + 100) for at in range(many)]]
        lefts, widths, _ = table_grid(fonts, 0, columns, rows)
        self.assertEqual((lefts, widths), (expected, [100 * at + 100 for at in range(many)]))
        told = tabled(fonts, 0, columns, rows)
        self.assertEqual(told.width, width)
        return [x for x, _, _ in told.marks]

    def test_without_bars(self):
        self.assertEqual(self.lefts("l", [0], 100), [])
        self.assertEqual(self.lefts("lcr", [0, 201, 502], 802), [])
        twelve = [101 * at + 100 * at * (at + 1) // 2 for at in range(12)]
        self.assertEqual(self.lefts("lcr" * 4, twelve, 7800 + 11 * 101), [])

    def test_bars_between(self):
        self.assertEqual(self.lefts("l|c", [0, 100 + 51 + 10 + 50], 411), [151])
        self.assertEqual(self.lefts("l||c", [0, 100 + 51 + 40 + 50], 441), [151, 181])
        self.assertEqual(self.lefts("l|||c", [0, 100 + 51 + 70 + 50], 471), [151, 181, 211])
        self.assertEqual(self.lefts("l|c", [0, 100 + 50 + 10 + 50], 410, 100), [150])
        self.assertEqual(self.lefts("l|c", [0, 110], 310, 0), [100])

    def test_bars_at_the_ends(self):
        self.assertEqual(self.lefts("|l", [60], 160), [0])
        self.assertEqual(self.lefts("||l", [90], 190), [0, 30])
        self.assertEqual(self.lefts("l|", [0], 161), [151])
        self.assertEqual(self.lefts("l||", [0], 191), [151, 181])
        self.assertEqual(self.lefts("|l|", [60], 221), [0, 211])
        self.assertEqual(self.lefts("|" * 35 + "l", [3 * 35 * 10 - 20 + 50], 1130 - 50 + 100), [30 * at for at in range(35)])

    def test_all_together(self):
        bars = self.lefts("||l|cr|", [90, 90 + 100 + 51 + 10 + 50, 301 + 200 + 101], 602 + 300 + 51 + 10)
        self.assertEqual(bars, [0, 30, 241, 953])

    def test_bars_without_thickness(self):
        self.assertEqual(self.lefts("||l|", [50], 201, thick=0), [0, 0, 201])

    def test_widths(self):
        fonts = table_fonts()
        rows = [[box(-5), box(-5), box(3)], "rule", [box(7), box(-9), box(4)], [box(6), box(-2), box(5)]]
        self.assertEqual(table_grid(fonts, 0, "lll", rows)[:2], ([0, 107, 207], [7, 0, 5]))

    def test_places_in_columns(self):
        fonts = table_fonts(column=0)
        for wide in (100, 99, 98, 1, 0, -1, -2, -99):
            for letter, place in (("l", 0), ("r", 100 - wide), ("c", (100 - wide) // 2)):
                told = tabled(fonts, 0, letter, [[box(100)], [box(wide, marks=[rule(5)])]])
                self.assertEqual([mark[0] for mark in told.marks], [place + 5])


class Down(Case):

    def baselines(self, rows, expected, height, depth, **numbers):
        """How high the baselines stand, rows being tuples (height, depth) or "rule"; the rules' lower ends."""
        rows = [row if row == "rule" else [box(9, *row)] for row in rows]
        fonts = table_fonts(**numbers)
        self.assertEqual(table_grid(fonts, 0, "c", rows)[2], expected)
        told = tabled(fonts, 0, "c", rows)
        self.assertEqual((told.height, told.depth), (height, depth))
        self.assertEqual({mark[2] for mark in told.marks}, {("rule", (), 9, numbers.get("thick", 10))} if told.marks else set())
        return [y for _, y, _ in told.marks]

    def test_one_row(self):
        for height, depth, high in ((0, 0, 0), (1, 0, 1), (0, 1, 1), (30, 10, 20), (30, 11, 21), (-5, -6, 0), (-5, 6, 3)):
            total = max(0, height) + max(0, depth)
            for axis in (0, 7):
                self.baselines([(height, depth)], [axis + high - max(0, height)], axis + high, total - high - axis, axis=axis)

    def test_distances(self):
        # 12 + 20 + 30 = 62
        for baseline, distance in ((0, 62), (61, 62), (62, 62), (63, 63), (500, 500)):
            total = 5 + distance + 8
            self.baselines([(5, 12), (30, 8)], [half(total) - 5, half(total) - 5 - distance], half(total), total // 2, baseline=baseline)

    def test_example(self):
        for rules, distance in ((0, 1200), (2, 1200), (3, 1280)):
            rows = [[box(9, 0, 300)]] + ["rule"] * rules + [[box(9, 500, 0)]]
            upper, lower = table_grid(table_fonts(40, 0, 0, 100, 1200), 0, "c", rows)[2]
            self.assertEqual(upper - lower, distance)

    def test_rules_between(self):
        # 12 + 20 + 10 + 20 + 30 = 92
        bottom = self.baselines([(5, 12), "rule", (30, 8)], [53 - 5, 53 - 5 - 92], 53, 52)
        self.assertEqual(bottom, [48 - 12 - 20 - 10])
        bottom = self.baselines([(5, 12), "rule", "rule", (30, 8)], [68 - 5, 68 - 5 - 122], 68, 67)
        self.assertEqual(bottom, [63 - 12 - 20 - 10, 63 - 12 - 20 - 40])
        # What is more than needed stands below the rules.
        bottom = self.baselines([(5, 12), "rule", "rule", (30, 8)], [102, 102 - 200], 107, 106, baseline=200)
        self.assertEqual(bottom, [102 - 12 - 20 - 10, 102 - 12 - 20 - 40])

    def test_rules_at_the_ends(self):
        bottom = self.baselines(["rule", (5, 12)], [24 - 35], 24, 23)
        self.assertEqual(bottom, [14])
        bottom = self.baselines(["rule", "rule", (5, 12)], [39 - 65], 39, 38)
        self.assertEqual(bottom, [29, -1])
        bottom = self.baselines([(5, 12), "rule"], [24 - 5], 24, 23)
        self.assertEqual(bottom, [-23])
        bottom = self.baselines([(5, 12), "rule", "rule", "rule"], [54 - 5], 54, 53)
        self.assertEqual(bottom, [54 - 5 - 12 - 20 - 10 - 30 * at for at in range(3)])
        bottom = self.baselines(["rule", (5, 12), "rule"], [39 - 35], 39, 38)
        self.assertEqual(bottom, [29, -38])

    def test_twenty_rows(self):
        self.baselines([(0, 0)] * 20, [190 - 20 * at for at in range(20)], 190, 190)
        rows = ["rule"] * 10 + [(0, 0)] + ["rule"] * 9
        bottom = self.baselines(rows, [285 - 280 - 20], 285, 285)
        self.assertEqual(bottom, [275 - 30 * at for at in range(10)] + [-15 - 20 - 10 - 30 * at for at in range(9)])

    def test_rules_without_thickness(self):
        bottom = self.baselines(["rule", (5, 12), "rule", "rule"], [29 - 25], 29, 28, thick=0)
        self.assertEqual(bottom, [29, -28, -28])

    def test_rooms(self):
        def rooms(rows, baseline=100):
            rows = [row if row == "rule" else [box(9, *row)] for row in rows]
            return table_rooms(table_fonts(baseline=baseline), 0, "c", rows)
        self.assertEqual(rooms([(5, 6)]), [])
        self.assertEqual(rooms(["rule", (5, 6), "rule"]), [])
        self.assertEqual(rooms([(5, 12), (30, 8), (50, 9)]), [38, 22])
        self.assertEqual(rooms([(5, 12), (68, 8), (73, -9), (-99, 9)]), [0, 0, 80])
        self.assertEqual(rooms([(5, 12), (67, 8)]), [1])
        self.assertEqual(rooms([(5, 12), "rule", (30, 8), "rule", "rule", (1, 0)]), [8, 11])

    def test_rooms_as_told(self):
        chance = random.Random(4)
        for _ in range(200):
            fonts = table_fonts(thick=chance.randrange(5), baseline=chance.randrange(90))
            depths = [chance.randrange(30) for _ in range(3)]

            def distances(more, at, rules):
                rows = [[box(1, 20, depth + (more if at == k else 0))] for k, depth in enumerate(depths)]
                rows[1:1] = ["rule"] * rules
                ends = table_grid(fonts, 0, "l", rows)[2]
                return [upper - lower for upper, lower in zip(ends, ends[1:])], table_rooms(fonts, 0, "l", rows)

            for rules, at in itertools.product(range(3), range(2)):
                now, rooms = distances(0, at, rules)
                self.assertEqual(distances(rooms[at], at, rules)[0], now)
                if rooms[at] > 0 or now[at] > fonts.number_at("baseline", None):
                    self.assertGreater(distances(rooms[at] + 1, at, rules)[0][at], now[at])


class Tabled(Case):

    def test_marks(self):
        fonts = table_fonts(axis=7)
        cells = [[Box(10, 5, 6, [rule(1, 2)]), Box(20, 3, 4, [glyph(3, 4), rule(5, 6)])], [EMPTY, Box(8, 1, 2, [glyph(7, 8)])]]
        for style, size in enumerate(SIZES):
            told = tabled(fonts, style, "|l|r", ["rule", cells[0], "rule", cells[1]])
            # From the top: a rule, 20, the first row at 35, its depth of 6, 20, a rule, 20, the second one at 92, and 2.
            top = 7 + 47
            first, second = 60, 60 + 10 + 50 + 10 + 50
            self.assertEqual(told, Box(second + 20, top, 94 - top, [
                rule(first + 1, top - 35 + 2), glyph(second + 3, top - 35 + 4), rule(second + 5, top - 35 + 6),
                glyph(second + 12 + 7, top - 92 + 8),
                rule(0, top - 94, 10, 94, ()), rule(first + 10 + 50, top - 94, 10, 94, ()),
                rule(0, top - 10, second + 20, 10, ()), rule(0, top - 35 - 6 - 20 - 10, second + 20, 10, ()),
            ]))

    def test_numbers_of_the_size(self):
        rows = ["rule", [EMPTY]]
        for style, size in enumerate(SIZES):
            for other in range(3):
                fonts = fonts_with({("rule", other): 10, ("axis", other): 70})
                told = tabled(fonts, style, "l|", rows)
                is_here = other == size
                self.assertEqual((told.width, told.height), (10, 75) if is_here else (0, 0))

    def test_nothing_is_changed_or_kept(self):
        rows = [[Box(1, 2, 3, [rule()])], "rule"]
        fonts = table_fonts()
        tabled(fonts, 0, "|l", rows).marks.clear()
        for told in table_grid(fonts, 0, "|l", rows):
            told.clear()
        table_rooms(fonts, 0, "|l", rows).clear()
        self.assertEqual(rows, [[Box(1, 2, 3, [rule()])], "rule"])
        self.assertEqual(tabled(rows=rows, columns="|l", style=0, fonts=fonts), tabled(fonts, 0, "|l", rows))
        self.assertEqual(table_grid(rows=rows, columns="|l", style=0, fonts=fonts), ([60], [1], [18 - 2]))
        self.assertEqual(table_rooms(rows=rows, columns="|l", style=0, fonts=fonts), [])
        self.assertIs(table_grid(fonts, 0, "|l", rows).__class__, tuple)

    def test_great_numbers(self):
        fonts = fonts_with({"rule": LIMIT, "axis": LIMIT}, dict.fromkeys(["column", "apart", "baseline"], LIMIT))
        told = tabled(fonts, 0, "|c", [[Box(LIMIT, LIMIT, LIMIT)], "rule"])
        self.assertEqual((told.width, told.height, told.depth), (2 * LIMIT + LIMIT // 2, 3 * LIMIT, LIMIT))

    def test_facts(self):
        chance = random.Random(12)
        for _ in range(100):
            many = chance.randrange(1, 13)
            columns = "".join(chance.choice("lcr") for _ in range(many))
            rows = [[box(*[chance.randrange(-20, 90) for _ in range(3)], [glyph()]) for _ in range(many)] for _ in range(4)]
            fonts = table_fonts(column=chance.randrange(50), baseline=chance.randrange(90))
            lefts, widths, baselines = table_grid(fonts, 0, columns, rows)
            told = tabled(fonts, 0, columns, rows)
            self.assertEqual(told.width, sum(widths) + (many - 1) * fonts.number_at("column", None))
            other = tabled(fonts, 0, columns, [rows[0], rows[2], rows[1], rows[3]])
            across = [mark[0] for mark in told.marks]
            self.assertEqual([mark[0] for mark in other.marks], across[:many] + across[2 * many:3 * many] + across[many:2 * many] + across[3 * many:])
            for upper, lower in zip(baselines, baselines[1:]):
                self.assertGreaterEqual(upper - lower, fonts.number_at("baseline", None))
            moved = tabled(fonts.changed("axis", 0, 77), 0, columns, rows)
            self.assertEqual(moved.height + moved.depth, told.height + told.depth)


class InFormulas(Case):

    def test_cells_and_paths(self):
        glyphs = {(0, size, "a"): (100 + size, 40, 5, 3, None, None) for size in range(3)}
        fonts = fonts_with({"rule": 10, "axis": 7}, {"column": 100, "apart": 20}, glyphs)
        a = [symbol()]
        item = ("table", "|l|r", ["rule", [a, []], "rule", [a + a, a]], None, None)
        for style, size in enumerate(SIZES):
            def cell(path, wide=1):
                marks = [glyph((103 + size) * at, 0, "a", 0, size, path + (at,)) for at in range(wide)]
                return Box((103 + size) * wide, 40, 5, marks)
            rows = ["rule", [cell((1, 2, 1, 0)), EMPTY], "rule", [cell((1, 2, 3, 0), 2), cell((1, 2, 3, 1))]]
            told = tabled(fonts, style, "|l|r", rows)
            marks = [(x, y, (mark[0], mark[1] or (1,), *mark[2:])) for x, y, mark in told.marks]
            self.assertEqual(layout(fonts, [("kern", 0, "mu"), item], style), Box(told.width, told.height, told.depth, marks))

    def test_deep_cells(self):
        inner = [("table", "l", [[[("table", "l", [[[("kern", 7, "units")]]], None, None)]]], None, None)]
        self.assertEqual(layout(table_fonts(), inner, 0).width, 7)


class WrongArguments(Case):

    def test_in_order(self):
        columns = [None, 0, "", "|", "x", "l r", "L", "l" * 13, "|" * 36 + "l", ["l"], ("l",)] + [
            value for value in odd_values() if value != "l"
        ]
        right_cell = Box(LIMIT, -LIMIT, LIMIT, [rule(LIMIT)])
        cells = [right_cell, EMPTY]
        rows = [None, [], "rule", (cells,), [[EMPTY]], [cells, cells[:1]], [cells, cells + cells], ["rule"], [cells] * 21]
        rows += [[cells, value] for value in [None, "rul", tuple(cells), ("rule",)] + odd_values()]
        rows += [[cells, [EMPTY, value]] for value in [None] + no_boxes()]
        rows += [value for value in odd_values()]
        right = {"fonts": table_fonts(), "style": 7, "columns": "|l||c|", "rows": [cells, "rule"] + [cells] * 18}
        for function in (tabled, table_grid, table_rooms):
            self.assertRefuses(function, right, [
                ("fonts", no_fonts(), InvalidArgument, {"part": "fonts"}),
                ("style", no_styles(), InvalidArgument, {"part": "style"}),
                ("columns", columns, InvalidArgument, {"part": "columns"}),
                ("rows", rows, InvalidArgument, {"part": "rows"}),
            ])
            function(table_fonts(), 0, "|" * 24 + "lcr" * 4, [[EMPTY] * 12] * 20)


if __name__ == "__main__":
    unittest.main()
