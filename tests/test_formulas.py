"""What is told of formulas (points 17, 18, 20 and 21)."""

import unittest

from mathboxes.errors import InvalidFormula, InvalidPath
from mathboxes.formulas import check_formula, count, depth_of, item_at, paths, replaced, symbols
from tests.samples import LIMIT, Case, lists_and_dicts, nest, odd_values, symbol

D = (1, "p", 2, "q")
E = (3, "r", 0, "s")


def kern(n=1):
    return ("kern", n, "units")


def one(n):
    return [kern(n)]


def rich():
    """A formula with each kind of item, all formulas in them being there."""
    return [
        symbol("x", one(1), one(2)),
        ("list", "inner", one(3), one(4), one(5)),
        ("over", one(6), one(7), one(8)),
        ("under", one(9), one(10), one(11)),
        ("center", one(12), one(13), one(14)),
        ("root", D, one(15), one(16), one(17)),
        ("accent", 3, "hat", one(18), one(19), one(20)),
        ("operator", "never", one(21), one(22), one(23)),
        ("fence", D, [("middle", E), kern(24)], E, one(25), one(26)),
        ("fraction", one(27), one(28), 5, E, D),
        ("table", "l|c", ["rule", [one(29), one(30)], "rule", [one(31), [kern(32), symbol("y", one(33))]]], one(34),
         one(35)),
        ("kern", -7, "mu"),
        ("style", 6),
        ("choice", one(36), one(37), one(38), one(39)),
    ]


PATHS = [
    (0,), (0, 4, 0), (0, 5, 0), (1,), (1, 2, 0), (1, 3, 0), (1, 4, 0), (2,), (2, 1, 0), (2, 2, 0), (2, 3, 0),
    (3,), (3, 1, 0), (3, 2, 0), (3, 3, 0), (4,), (4, 1, 0), (4, 2, 0), (4, 3, 0), (5,), (5, 2, 0), (5, 3, 0), (5, 4, 0),
    (6,), (6, 3, 0), (6, 4, 0), (6, 5, 0), (7,), (7, 2, 0), (7, 3, 0), (7, 4, 0),
    (8,), (8, 2, 0), (8, 2, 1), (8, 4, 0), (8, 5, 0), (9,), (9, 1, 0), (9, 2, 0),
    (10,), (10, 2, 1, 0, 0), (10, 2, 1, 1, 0), (10, 2, 3, 0, 0), (10, 2, 3, 1, 0), (10, 2, 3, 1, 1),
    (10, 2, 3, 1, 1, 4, 0), (10, 3, 0), (10, 4, 0), (11,), (12,), (13,), (13, 1, 0), (13, 2, 0), (13, 3, 0), (13, 4, 0),
]


class Paths(Case):

    def test_paths(self):
        self.assertEqual(paths(rich()), PATHS)
        self.assertEqual(paths([]), [])

    def test_kerns_are_met_in_order(self):
        kerns = [item_at(rich(), path) for path in paths(rich())]
        self.assertEqual([item[1] for item in kerns if item[0] == "kern" and item[1] > 0], list(range(1, 40)))

    def test_without_scripts(self):
        formula = [symbol(), ("over", [], None, None), ("fraction", [], one(1), None, None, None), symbol(sub=one(2))]
        self.assertEqual(paths(formula), [(0,), (1,), (2,), (2, 2, 0), (3,), (3, 5, 0)])

    def test_count(self):
        self.assertEqual(count(rich()), len(PATHS))
        self.assertEqual((count([]), count([("over", [], [], [])]), count(formula=[("over", one(1), None, None)])), (0, 1, 2))
        self.assertEqual(count(one(0) * 200), 200)

    def test_new(self):
        formula = rich()
        result = self.assertLeaves(paths, formula)
        result.clear()
        self.assertEqual(paths(formula), PATHS)
        self.assertLeaves(count, rich())


class Depth(Case):

    def test_levels(self):
        for deep in range(1, 7):
            self.assertEqual(depth_of(nest(deep, one(1))), deep)
            self.assertEqual(depth_of(nest(deep)), max(1, deep - 1))

    def test_each_formula_counts(self):
        self.assertEqual(depth_of(rich()), 3)
        deeper = [("list", "ord", one(1), None, None)]
        for path in PATHS:
            if item_at(rich(), path)[0] != "middle":
                formula = replaced(rich(), path, ("over", deeper, None, None))
                self.assertEqual(depth_of(formula), max(3, self.deep(path) + 2), path)

    def deep(self, path):
        """How deep the formula of the item at a path of the rich formula stands."""
        if path[:2] == (10, 2):
            return 2 if len(path) == 5 else 3
        return (len(path) + 1) // 2

    def test_empty_formulas_do_not_count(self):
        self.assertEqual(depth_of([]), 1)
        self.assertEqual(depth_of([("fraction", [], [], None, None, None)]), 1)
        self.assertEqual(depth_of(formula=[("over", [("over", [], [], None)], None, None)]), 2)
        self.assertLeaves(depth_of, rich())


class ItemAt(Case):

    def test_items(self):
        for path in PATHS:
            item = rich()
            for step in path:
                item = item[step]
            self.assertEqual(self.assertLeaves(item_at, rich(), path), item)
        self.assertEqual(item_at(path=(0, 4, 0), formula=rich()), kern(1))

    def test_item_is_new(self):
        formula = rich()
        for at in range(14):
            for part in item_at(formula, (at,)):
                if isinstance(part, list):
                    part.clear()
        self.assertEqual(formula, rich())
        cells = item_at(formula, (10,))[2][3]
        cells[0].clear()
        cells[1][1][4].clear()
        self.assertEqual(formula, rich())

    def wrong_paths(self):
        paths_to_no_item = [
            (), (14,), (0, 4), (0, 4, 1), (0, 1, 0), (0, 3, 0), (0, 4, 0, 0), (1, 1), (5, 1, 0), (8, 1, 0), (8, 2),
            (10, 2), (10, 2, 0), (10, 2, 0, 0), (10, 2, 0, 0, 0), (10, 2, 1), (10, 2, 1, 0), (10, 2, 1, 2, 0), (10, 1, 0),
            (10, 2, 4, 0, 0), (11, 1), (13, 5, 0), (13, 0), (0, 0), (LIMIT,), (0,) * 9, (0, 4, LIMIT),
            (14, 4, 0), (LIMIT, 4, 0), (0, 4, 1, 4, 0), (10, 2, 0, 0, 0, 4, 0),
        ]
        others = [
            (-1,), (-14,), (0, -2, 0), (0, 4, -1), (False,), (True,), (0, 4, False), (0.0,), ("0",), (None,), ((0,),), ([],),
            [0], [], None, 0, 1, "0", {(0,): 1},
        ]
        return paths_to_no_item + others + [value for value in odd_values() if value != ()]

    def test_wrong_paths(self):
        for path in self.wrong_paths():
            self.assertTells(InvalidPath, {"path": path}, item_at, rich(), path)
            self.assertTells(InvalidPath, {"path": path}, replaced, rich(), path, None)

    def test_no_path_leads_into_an_empty_formula(self):
        self.assertTells(InvalidPath, {"path": (0,)}, item_at, [], (0,))

    def test_the_formula_is_checked_first(self):
        for function in (item_at, lambda formula, path: replaced(formula, path, None)):
            self.assertTells(InvalidFormula, {"path": ()}, function, None, None)
            self.assertTells(InvalidFormula, {"path": (0,)}, function, [None], (0,))


class Replaced(Case):

    def test_all_places(self):
        for path in PATHS:
            formula = self.assertLeaves(replaced, rich(), path, ("style", 2))
            self.assertEqual(item_at(formula, path), ("style", 2))
            self.assertEqual(replaced(formula, path, item_at(rich(), path)), rich())
            left = [place for place in PATHS if place == path or place[:len(path)] != path]
            self.assertEqual(paths(formula), left)

    def test_examples(self):
        self.assertEqual(replaced(one(1), (0,), ("style", 0)), [("style", 0)])
        formula = [symbol("x", one(1) + one(2)), kern(3)]
        expected = [symbol("x", [kern(1), symbol("y")]), kern(3)]
        self.assertEqual(replaced(item=symbol("y"), path=(0, 4, 1), formula=formula), expected)

    def test_nothing_is_kept(self):
        formula, item = rich(), ("over", one(1), one(2), None)
        result = replaced(formula, (10, 2, 3, 1, 0), item)
        self.assertFalse(set(lists_and_dicts(result)) & set(lists_and_dicts((formula, item))))
        item[1].clear()
        formula.clear()
        self.assertEqual(item_at(result, (10, 2, 3, 1, 0)), ("over", one(1), one(2), None))

    def test_the_formula_itself_may_come(self):
        formula = one(1)
        result = replaced(formula, (0,), ("over", formula, formula, None))
        self.assertEqual(result, [("over", one(1), one(1), None)])
        self.assertIsNot(result[0][1], result[0][2])
        self.assertEqual(formula, one(1))

    def test_no_item_comes(self):
        for item in [None, 0, "kern", (), [], ("kern", 1), list(kern())] + odd_values():
            self.assertTells(InvalidFormula, {"path": (8, 2, 1)}, replaced, rich(), (8, 2, 1), item)
        self.assertTells(InvalidFormula, {"path": (0, 4)}, replaced, rich(), (0,), symbol("x", 5))
        self.assertTells(InvalidFormula, {"path": (1, 2, 0, 1, 0)}, replaced, rich(), (1, 2, 0), ("over", [0], 0, 0))

    def test_a_middle(self):
        self.assertEqual(replaced(rich(), (8, 2, 1), ("middle", None))[8][2], [("middle", E), ("middle", None)])
        self.assertTells(InvalidFormula, {"path": (8, 4, 0)}, replaced, rich(), (8, 4, 0), ("middle", None))

    def test_too_deep(self):
        path = (0, 2, 0, 2, 0, 2, 0, 2, 0, 2, 0)
        formula = nest(6, one(1))
        self.assertEqual(replaced(formula, path, kern(2)), nest(6, one(2)))
        self.assertTells(InvalidFormula, {"path": (*path, 1)}, replaced, formula, path, ("over", [], None, None))

    def test_too_many(self):
        formula = one(1) * 199
        self.assertEqual(count(replaced(formula, (0,), ("over", one(1), None, None))), 200)
        self.assertTells(InvalidFormula, {"path": ()}, replaced, formula, (0,), ("over", one(1) * 2, None, None))


class Symbols(Case):

    def test_all_kinds(self):
        self.assertEqual(symbols(rich()), [
            ((0,), 0, "x"), ((5,), 1, "p"), ((5,), 2, "q"), ((6,), 3, "hat"),
            ((8,), 1, "p"), ((8,), 2, "q"), ((8,), 3, "r"), ((8,), 0, "s"), ((8, 2, 0), 3, "r"), ((8, 2, 0), 0, "s"),
            ((9,), 3, "r"), ((9,), 0, "s"), ((9,), 1, "p"), ((9,), 2, "q"), ((10, 2, 3, 1, 1), 0, "y"),
        ])

    def test_without_delimiters(self):
        formula = [
            ("root", None, [], None, None), ("fence", None, [("middle", None)], D, None, None),
            ("fraction", [], [], None, D, None), ("fence", None, [], None, [symbol("a")], [symbol("b", family=3)]),
        ]
        self.assertEqual(symbols(formula), [
            ((1,), 1, "p"), ((1,), 2, "q"), ((2,), 1, "p"), ((2,), 2, "q"), ((3, 4, 0), 0, "a"), ((3, 5, 0), 3, "b"),
        ])
        self.assertEqual(symbols(formula=[]), [])

    def test_in_order(self):
        formula = [symbol("a", [symbol("b", [symbol("c")])], [symbol("d")]), ("accent", 1, "e", [symbol("f")], None, None)]
        self.assertEqual([name for _, _, name in symbols(formula)], list("abcdef"))

    def test_new(self):
        formula = rich()
        self.assertLeaves(symbols, formula).clear()
        self.assertEqual(len(symbols(formula)), 15)


class Equality(Case):

    def test_pythons_own(self):
        self.assertTrue(rich() == rich())
        self.assertIsNone(self.assertLeaves(check_formula, rich()))


if __name__ == "__main__":
    unittest.main()
