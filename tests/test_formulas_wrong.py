"""What is a formula, and what is none (points 17, 18 and 19)."""

import unittest

from mathboxes.errors import InvalidFormula
from mathboxes.formulas import check_formula, count, depth_of, item_at, paths, replaced, symbols
from tests.samples import LIMIT, Case, nest, odd_values, symbol

D = (1, "p", 2, "q")
KERN = ("kern", 1, "units")
BAD = ["no item"]

# One right item of each kind, without any formula that is not empty.
PLAIN = {
    "symbol": ("symbol", "ord", 0, "a", None, None),
    "list": ("list", "ord", [], None, None),
    "over": ("over", [], None, None),
    "under": ("under", [], None, None),
    "center": ("center", [], None, None),
    "root": ("root", None, [], None, None),
    "accent": ("accent", 0, "a", [], None, None),
    "operator": ("operator", "always", [], None, None),
    "fence": ("fence", None, [], None, None, None),
    "middle": ("middle", None),
    "fraction": ("fraction", [], [], None, None, None),
    "table": ("table", "l", [[[]]], None, None),
    "kern": KERN,
    "style": ("style", 0),
    "choice": ("choice", [], [], [], []),
}

FORMULAS = {
    "symbol": (), "list": (2,), "over": (1,), "under": (1,), "center": (1,), "root": (2,), "accent": (3,),
    "operator": (2,), "fence": (2,), "middle": (), "fraction": (1, 2), "table": (), "kern": (), "style": (),
    "choice": (1, 2, 3, 4),
}

SCRIPTS = {
    "symbol": (4, 5), "list": (3, 4), "over": (2, 3), "under": (2, 3), "center": (2, 3), "root": (3, 4),
    "accent": (4, 5), "operator": (3, 4), "fence": (4, 5), "middle": (), "fraction": (), "table": (3, 4), "kern": (),
    "style": (), "choice": (),
}


def put(item, at, value):
    return (*item[:at], value, *item[at + 1:])


class Formula(Case):

    def right(self, formula):
        self.assertIsNone(check_formula(formula))

    def wrong(self, path, formula):
        self.assertTells(InvalidFormula, {"path": path}, check_formula, formula)

    def framed(self, item):
        """A formula that has an item at (1,), as an item of a fence's INNER at (1, 2, 0) if it is a middle."""
        if item[:1] == ("middle",):
            return (1, 2, 0), [KERN, ("fence", None, [item, KERN], None, None, None), KERN]
        return (1,), [KERN, item, KERN]

    def right_item(self, item):
        self.right(self.framed(item)[1])

    def wrong_item(self, item):
        """An item that is wrong by itself, with wrong ones behind it."""
        path, formula = self.framed(item)
        self.wrong(path, formula + BAD)

    def wrong_part(self, word, at, values):
        """Values that cannot stand in an item, which is wrong itself then, even if its formulas are wrong, too."""
        for value in values:
            item = put(PLAIN[word], at, value)
            self.wrong_item(item)
            for other in FORMULAS[word] + SCRIPTS[word]:
                self.wrong_item(put(item, other, BAD))


class Items(Formula):

    def test_plain_ones(self):
        self.right([])
        self.assertIsNone(check_formula(formula=[KERN]))
        for item in PLAIN.values():
            self.right_item(item)

    def test_no_tuples(self):
        for item in [None, 0, "kern", (), [], list(KERN), ("kern",), ("Kern", 1, "mu"), (None, 1, "mu")] + odd_values():
            self.wrong((1,), [KERN, item, None])

    def test_words_of_other_kinds(self):
        for value in [None, 0, "", "ord", "symbols", ("kern",)] + odd_values():
            self.wrong((1,), [KERN, (value, 1, "mu"), None])
            self.wrong((0,), [(value,)])

    def test_lengths(self):
        for item in PLAIN.values():
            self.wrong_item(item[:-1])
            self.wrong_item((*item, None))
            self.wrong_item((*item, []))

    def test_lists_instead_of_tuples(self):
        for item in PLAIN.values():
            self.wrong((0,), [list(item)])

    def test_formulas_that_must_be_there(self):
        for word, places in FORMULAS.items():
            for at in places:
                path, formula = self.framed(put(PLAIN[word], at, [KERN]))
                self.right(formula)
                for value in [None, 0, "", (), (KERN,), KERN] + odd_values():
                    if not isinstance(value, list):
                        self.wrong((*path, at), self.framed(put(PLAIN[word], at, value))[1] + BAD)
                self.wrong((*path, at, 1), self.framed(put(PLAIN[word], at, [KERN, None, 0]))[1])

    def test_scripts(self):
        for word, places in SCRIPTS.items():
            for at in places:
                for script in (None, [], [KERN]):
                    self.right_item(put(PLAIN[word], at, script))
                for value in [0, "", (), (KERN,), KERN] + odd_values():
                    if not isinstance(value, list):
                        self.wrong((1, at), self.framed(put(PLAIN[word], at, value))[1] + BAD)
                self.wrong((1, at, 0), self.framed(put(PLAIN[word], at, [None, 0]))[1])

    def test_the_order_within_an_item(self):
        for word, item in PLAIN.items():
            places = sorted(FORMULAS[word] + SCRIPTS[word])
            for one, other in zip(places, places[1:]):
                path, formula = self.framed(put(put(item, one, BAD), other, 5))
                self.wrong((*path, one, 0), formula)
                path, formula = self.framed(put(put(item, one, 5), other, BAD))
                self.wrong((*path, one), formula)
                path, formula = self.framed(put(put(item, one, []), other, BAD))
                self.wrong((*path, other, 0), formula)

    def test_no_list(self):
        for value in [None, 0, "", (), (KERN,), KERN] + odd_values():
            if not isinstance(value, list):
                self.wrong((), value)


class Parts(Formula):

    def test_symbol_class(self):
        for kind in ("ord", "bin", "rel", "open", "close", "punct"):
            self.right_item(put(PLAIN["symbol"], 1, kind))
        self.wrong_part("symbol", 1, ["op", "inner", "Ord", "", None, 0, ("ord",)] + odd_values())

    def test_list_class(self):
        for kind in ("ord", "bin", "rel", "open", "close", "punct", "op", "inner"):
            self.right_item(put(PLAIN["list"], 1, kind))
        self.wrong_part("list", 1, ["Op", "", None, 0, ("ord",), "middle"] + odd_values())

    def test_family(self):
        for word, at in (("symbol", 2), ("accent", 1)):
            for family in (0, 1, 2, 3):
                self.right_item(put(PLAIN[word], at, family))
            self.wrong_part(word, at, [-1, 4, None, "0"] + odd_values())

    def test_name(self):
        for word, at in (("symbol", 3), ("accent", 2)):
            for name in ("a", "z", "abcdefgh"):
                self.right_item(put(PLAIN[word], at, name))
            self.wrong_part(word, at, ["abcdefghi", "A", "a1", "a_", "a`", "a{", "a\n", 0, None, ("a",)] + odd_values())
            # Letters of other alphabets, and small letters without a great one.
            self.wrong_part(word, at, ["\u00e9", "a\u00e9", "\u00df", "\u0131", "\u03b1", "\u00aa", "\uff41", "aB", "a1b", "1"])

    def test_delimiters(self):
        rows = [("root", 1), ("fence", 1), ("fence", 3), ("middle", 1), ("fraction", 4), ("fraction", 5)]
        for word, at in rows:
            for delimiter in (None, D, (0, "a", 0, "a"), (3, "abcdefgh", 3, "z")):
                self.right_item(put(PLAIN[word], at, delimiter))
            values = [0, "", "a", D[:3], (*D, 0), list(D), D[:2], (1, "p", 2, None), (None, None, None, None)]
            self.wrong_part(word, at, values + odd_values())
            for place in (0, 2):
                self.wrong_part(word, at, [put(D, place, value) for value in [-1, 4, None] + odd_values()])
            for place in (1, 3):
                self.wrong_part(word, at, [put(D, place, value) for value in ["A", "abcdefghi", None] + odd_values()])

    def test_limits(self):
        for limits in ("display", "always", "never"):
            self.right_item(put(PLAIN["operator"], 1, limits))
        self.wrong_part("operator", 1, ["Always", "", None, 0, ("never",)] + odd_values())

    def test_thickness(self):
        for thickness in (None, 0, 1, LIMIT):
            self.right_item(put(PLAIN["fraction"], 3, thickness))
        self.wrong_part("fraction", 3, [-1, LIMIT + 1, "1", ()] + odd_values())

    def test_kern(self):
        for n in (0, 1, -1, LIMIT, -LIMIT):
            self.right_item(("kern", n, "units"))
            self.right_item(("kern", n, "mu"))
        self.wrong_part("kern", 1, [LIMIT + 1, -LIMIT - 1, None, "1"] + odd_values())
        self.wrong_part("kern", 2, ["unit", "Mu", "", None, 0, ("mu",)] + odd_values())

    def test_style(self):
        for style in (0, 2, 4, 6):
            self.right_item(("style", style))
        self.wrong_part("style", 1, [1, 3, 5, 7, 8, -2, -1, None, "0"] + odd_values())

    def test_wrong_ahead_of_its_formulas(self):
        self.wrong((0,), [("list", "none", BAD, BAD, BAD)])
        self.wrong((0, 2, 0), [("list", "ord", BAD, BAD, BAD), None])


class Tables(Formula):

    def table(self, columns, rows):
        return ("table", columns, rows, None, None)

    def right_table(self, columns, rows):
        self.right_item(self.table(columns, rows))

    def wrong_table(self, columns, rows):
        self.wrong_item(self.table(columns, rows))
        self.wrong_item(put(self.table(columns, rows), 3, BAD))

    def test_columns(self):
        for columns in ("l", "c", "r", "|l", "l|", "||l||", "lcrlcrlcrlcr", "lc|r|" * 4, "|" * 35 + "c"):
            self.right_table(columns, [[[]] * len(columns.replace("|", ""))])
        for columns in ["", "|", "lx", "L", "l l", "l,", "l\n", "||||", None, 0, ("l",), ["l"], b"l"] + odd_values():
            self.wrong_table(columns, [[[]]])
            self.wrong_table(columns, [[[]] * 2])

    def test_twelve_columns(self):
        self.right_table("l" * 12, [[[]] * 12])
        self.right_table("l|" * 12, [[[]] * 12])
        self.wrong_table("l" * 13, [[[]] * 13])
        self.wrong_table("l|" * 13, [[[]] * 13])

    def test_thirty_six_signs(self):
        self.right_table("l" * 12 + "|" * 24, [[[]] * 12])
        self.right_table("|" * 12 + "l" * 12 + "|" * 12, [[[]] * 12])
        self.wrong_table("l" * 12 + "|" * 25, [[[]] * 12])
        self.wrong_table("|" * 36 + "l", [[[]]])
        self.wrong_table("|" * 36, [[]])

    def test_twenty_rows(self):
        row = [[]]
        self.right_table("l", [row] * 20)
        self.right_table("l", ["rule"] * 19 + [row])
        self.wrong_table("l", [row] * 21)
        self.wrong_table("l", ["rule"] * 20 + [row])

    def test_rows(self):
        row = [[], []]
        self.right_table("lr", ["rule", row, "rule", "rule", row, "rule"])
        for rows in [[], ["rule"], ["rule"] * 20, None, 0, "rule", "", (row,), {0: row}] + odd_values():
            self.wrong_table("lr", rows)
        others = ["Rule", "", None, 0, (), ([], []), [], [[]], [[], [], []], "ab", {0: [], 1: []}]
        for other in others + odd_values():
            self.wrong_table("lr", [other])
            self.wrong_table("lr", [row, other])
            self.wrong_table("lr", [other, row])

    def test_cells(self):
        right = [[KERN], []]
        for cell in [None, 0, "", "rule", (), (KERN,), KERN] + odd_values():
            if not isinstance(cell, list):
                table = put(self.table("lr", ["rule", right, [[], cell], [cell, cell]]), 3, BAD)
                self.wrong((1, 2, 2, 1), [KERN, table, None])
        table = put(self.table("lr", [right, "rule", [[KERN, KERN, 0], [0]]]), 3, BAD)
        self.wrong((0, 2, 2, 0, 2), [table, None])
        self.wrong((0, 3, 0), [put(self.table("lr", [right]), 3, BAD)])


class Middles(Formula):

    MIDDLE = ("middle", D)

    def test_right_places(self):
        self.right([("fence", D, [self.MIDDLE, KERN, self.MIDDLE], D, None, None)])
        self.right([("fence", D, [("fence", D, [self.MIDDLE], D, None, None), self.MIDDLE], D, None, None)])

    def test_outermost(self):
        self.wrong((0,), [self.MIDDLE])
        self.wrong((1,), [KERN, self.MIDDLE, None])
        self.wrong((1,), [("fence", D, [], D, None, None), self.MIDDLE])

    def test_scripts_of_a_fence(self):
        self.wrong((0, 4, 0), [("fence", D, [self.MIDDLE], D, [self.MIDDLE], None)])
        self.wrong((0, 5, 1), [("fence", D, [], D, None, [KERN, self.MIDDLE])])

    def test_formulas_of_other_items(self):
        for word in PLAIN:
            for at in FORMULAS[word] + SCRIPTS[word]:
                if (word, at) != ("fence", 2):
                    item = put(PLAIN[word], at, [self.MIDDLE])
                    self.wrong((0, at, 0), [item])
                    self.wrong((0, 2, 0, at, 0), [("fence", D, [item], D, None, None)])
        self.wrong((0, 2, 0, 0, 0), [("table", "l", [[[self.MIDDLE]]], None, None)])

    def test_not_in_a_choice_there(self):
        choice = ("choice", [], [self.MIDDLE], [], [])
        self.wrong((0, 2, 1, 2, 0), [("fence", D, [self.MIDDLE, choice], D, None, None)])


class Depths(Formula):

    def test_six(self):
        self.right(nest(6))
        self.right(nest(6, [KERN, symbol()]))
        self.wrong((0, 2) * 6, nest(7))
        self.wrong((0, 2) * 6, nest(8))
        self.wrong((0, 2) * 6, nest(7, BAD))

    def test_each_formula_can_be_the_seventh(self):
        start = (0, 2) * 5
        for word in PLAIN:
            if word == "middle":
                continue
            for at in FORMULAS[word]:
                item = PLAIN[word]
                self.right(nest(5, [item]))
                self.wrong((*start, 0, FORMULAS[word][0]), nest(6, [item, None]))
            for at in SCRIPTS[word]:
                if not FORMULAS[word] and word != "table":
                    self.right(nest(6, [PLAIN[word]]))
                    self.wrong((*start, 0, at), nest(6, [put(PLAIN[word], at, []), None]))
        self.right(nest(5, [PLAIN["table"]]))
        self.wrong((*start, 0, 2, 1, 0), nest(6, [("table", "lr", ["rule", [[], []]], None, None)]))

    def test_other_wrong_things_so_deep(self):
        start = (0, 2) * 5
        self.wrong((*start, 0, 1), nest(6, [("over", None, None, None)]))
        self.wrong((*start, 0, 5), nest(6, [symbol(sub=0)]))
        self.wrong((*start, 0), nest(6, [("over", None, None)]))

    def test_what_stands_ahead_comes_first(self):
        deep = nest(7)
        self.wrong((0,), [None] + deep)
        self.wrong((0, 2) * 6, deep + [None])

    def test_the_order_of_all_depths(self):
        """Of several wrong things the first one in order is told, however deep it and the others stand."""
        deepest = nest(6, [KERN, BAD])
        self.wrong((0, 2) * 5 + (1,), deepest + [BAD])
        self.wrong((0,), [BAD] + deepest)
        self.wrong((0, 4, 1), [symbol(sup=[KERN, ("middle", None)], sub=0), BAD])
        self.wrong((0, 5), [symbol(sup=[KERN], sub=0), symbol(sup=0)])
        self.wrong((1, 3), [KERN, ("list", "ord", [symbol(sup=[symbol(sub=[])])], (), 0), ("kern", 1, 1)])
        self.wrong((0, 2, 0, 2, 0), [("fence", None, [("fence", None, [BAD], None, None, None), BAD], None, None, None)])
        self.wrong((0, 2) * 6, nest(7, [KERN] * 300) + [BAD])

    def test_a_formula_in_itself(self):
        formula = [KERN]
        formula.append(("over", formula, None, None))
        self.wrong((1, 1) * 6, formula)


class Counts(Formula):

    def test_two_hundred(self):
        self.right([KERN] * 200)
        self.wrong((), [KERN] * 201)

    def test_items_of_all_formulas_count(self):
        inner = [KERN] * 49
        self.right([symbol(sup=inner, sub=inner), ("fraction", inner, inner, None, None, None), KERN, KERN])
        self.wrong((), [symbol(sup=inner, sub=inner), ("fraction", inner, inner, None, None, None)] + [KERN] * 3)
        cells = [[KERN] * 3] * 11
        self.right([("table", "l" * 11, [cells] * 6, None, None), KERN])
        self.wrong((), [("table", "l" * 11, [cells] * 6, None, None), KERN, KERN])

    def test_paths_come_first(self):
        self.wrong((300,), [KERN] * 300 + [None] + [KERN] * 300)
        self.wrong((200, 4), [KERN] * 200 + [symbol(sup=0)])
        self.wrong((0, 4, 150), [symbol(sup=[KERN] * 150 + [BAD])] + [KERN] * 150)
        self.wrong((150, 4, 100), [KERN] * 150 + [symbol(sup=[KERN] * 100 + [("middle", None)])])


class All(Formula):
    """All functions of formulas ask for a formula first."""

    def test_all_functions(self):
        functions = [
            paths, count, depth_of, symbols, lambda formula: item_at(formula, None),
            lambda formula: replaced(formula, None, None),
        ]
        rows = [
            ((), None), ((), ()), ((), [KERN] * 201), ((0,), [None]), ((1, 4), [KERN, symbol(sup=0)]), ((0, 2) * 6, nest(7)),
        ]
        for function in functions:
            for path, formula in rows:
                self.assertTells(InvalidFormula, {"path": path}, function, formula)
            for value in odd_values():
                if not isinstance(value, list):
                    self.assertTells(InvalidFormula, {"path": ()}, function, value)


if __name__ == "__main__":
    unittest.main()
