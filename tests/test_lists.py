"""Rows: styles, classes, pairs and spaces (points 23 to 29)."""

import itertools
import random
import unittest

from mathboxes.errors import InvalidArgument, InvalidFormula
from mathboxes.formulas import check_formula
from mathboxes.lists import (
    arranged, cramped, den_style, num_style, places_of, row_of, space, sub_style, sup_style,
)
from tests.samples import LIMIT, Case, fonts_with, nest, no_fonts, no_styles, odd_values, symbol

STYLES = range(8)
CLASSES = "ord op bin rel open close punct inner".split()
# The words of point 27.
TABLE = (
    "ord 0 1 2 3 0 0 0 1; op 1 1 - 3 0 0 0 1; bin 2 2 - - 2 - - 2; rel 3 3 - 0 3 0 0 3; open 0 0 - 0 0 0 0 0; "
    "close 0 1 2 3 0 0 0 1; punct 1 1 - 1 1 1 1 1; inner 1 1 2 3 1 0 1 1"
)
ROWS = {row.split()[0]: row.split()[1:] for row in TABLE.split("; ")}
IN_SCRIPTS = ["ord op", "op ord", "op op", "close op", "inner op"]
WORDS = {"0": None, "-": None, "1": "thin", "2": "medium", "3": "thick"}

KERN = ("kern", 5, "units")
FENCE = ("fence", None, [], None, None, None)
GLYPH = (500, 400, 0, 20, None, None)
QUADS = {("quad", 0): 1000, ("quad", 1): 700, ("quad", 2): 505}
SETTINGS = {"thin": 3, "medium": 4, "thick": 5}


def atom(kind):
    """An atom of a class that is no symbol, so that no pair is looked at."""
    return ("list", kind, [], None, None)


def atoms(words):
    return [atom(word) for word in words.split()]


def word_between(one, other, style):
    """The space of two classes, straight from the table."""
    if style >= 4 and one + " " + other not in IN_SCRIPTS:
        return None
    return WORDS[ROWS[one][CLASSES.index(other)]]


def some_fonts(pairs=()):
    names = {name: GLYPH for name in "abcdefgh"}
    return fonts_with(QUADS, SETTINGS, names, pairs)


class Row(Case):

    def setUp(self):
        self.fonts = some_fonts()

    def styles(self, formula, style, expected):
        told = [(entry[0], entry[2]) for entry in arranged(self.fonts, formula, style)]
        self.assertEqual(told, expected)

    def classes(self, formula, expected, style=0):
        told = [entry[1] for entry in arranged(self.fonts, formula, style)]
        self.assertEqual(told, [None if word == "None" else word for word in expected.split()])


class StylesOfParts(Case):

    def test_styles(self):
        self.assertEqual([sup_style(style) for style in STYLES], [4, 5, 4, 5, 6, 7, 6, 7])
        self.assertEqual([sub_style(style) for style in STYLES], [5, 5, 5, 5, 7, 7, 7, 7])
        self.assertEqual([num_style(style) for style in STYLES], [2, 3, 4, 5, 6, 7, 6, 7])
        self.assertEqual([den_style(style) for style in STYLES], [3, 3, 5, 5, 7, 7, 7, 7])
        self.assertEqual([cramped(style) for style in STYLES], [1, 1, 3, 3, 5, 5, 7, 7])

    def test_by_name(self):
        for function in (sup_style, sub_style, num_style, den_style, cramped):
            self.assertEqual(function(style=4), function(4))


class RowsInStyles(Row):

    def test_each_item_has_the_style(self):
        for style in STYLES:
            self.styles([], style, [])
            self.styles([symbol(), KERN, FENCE], style, [((0,), style), ((1,), style), ((2,), style)])

    def test_style_items(self):
        formula = [KERN, ("style", 4), KERN, KERN, ("style", 0), KERN, ("style", 6), ("style", 2), KERN]
        for style in STYLES:
            odd = style % 2
            self.styles(formula, style, [
                ((0,), style), ((2,), 4 + odd), ((3,), 4 + odd), ((5,), 0 + odd), ((8,), 2 + odd),
            ])

    def test_style_items_within_items_do_not_hold_outside(self):
        self.styles([("list", "ord", [("style", 6)], [("style", 6)], None), KERN], 2, [((0,), 2), ((1,), 2)])

    def test_choices(self):
        formula = [KERN, ("choice", [KERN], [KERN, KERN], [], [symbol()]), KERN]
        taken = {
            0: [(1, 1, 0)], 1: [(1, 2, 0), (1, 2, 1)], 2: [], 3: [(1, 4, 0)],
        }
        for style in STYLES:
            paths = [(0,)] + taken[style // 2] + [(2,)]
            self.styles(formula, style, [(path, style) for path in paths])

    def test_the_style_there_chooses(self):
        choice = ("choice", [KERN], [KERN], [KERN], [KERN])
        formula = [choice, ("style", 6), choice, ("style", 0), choice, ("style", 4), choice]
        self.styles(formula, 3, [((0, 2, 0), 3), ((2, 4, 0), 7), ((4, 1, 0), 1), ((6, 3, 0), 5)])

    def test_a_style_item_of_a_choice_holds_on(self):
        choice = ("choice", [KERN, ("style", 4), KERN], [("style", 0)], [("style", 6), KERN], [])
        self.styles([choice, KERN, choice, KERN], 0, [
            ((0, 1, 0), 0), ((0, 1, 2), 4), ((1,), 4), ((2, 3, 1), 6), ((3,), 6),
        ])
        self.styles([choice, KERN, choice, KERN], 3, [((1,), 1), ((2, 1, 0), 1), ((2, 1, 2), 5), ((3,), 5)])

    def test_choices_within_one_another(self):
        inner = ("choice", [KERN], [("style", 6), KERN], [], [("style", 2)])
        outer = ("choice", [("style", 2), inner, KERN], [inner], [], [KERN])
        self.styles([outer, inner, inner, KERN], 0, [
            ((0, 1, 1, 2, 1), 6), ((0, 1, 2), 6), ((2, 2, 1), 6), ((3,), 6),
        ])
        self.styles([outer, KERN], 1, [((0, 1, 1, 2, 1), 7), ((0, 1, 2), 7), ((1,), 7)])

    def test_paths_begin_where_the_formula_stands(self):
        choice = ("choice", [KERN], [], [], [])
        row = row_of([KERN, choice, symbol()], 0, (3, 2))
        self.assertEqual([place.path for place in row], [(3, 2, 0), (3, 2, 1, 1, 0), (3, 2, 2)])


class ClassesOfAtoms(Row):

    def test_of_items(self):
        for kind in ("ord", "rel", "open", "close", "punct"):
            self.classes([symbol(kind=kind)], kind)
            self.classes([atom(kind)], kind)
        self.classes([atom("op"), atom("inner")], "op inner")
        self.classes([("operator", "never", [], None, None), ("fraction", [], [], 1, None, None), FENCE], "op inner inner")
        self.classes([
            ("over", [], None, None), ("under", [], None, None), ("center", [], None, None),
            ("root", None, [], None, None), ("accent", 0, "a", [], None, None), ("table", "l", [[[]]], None, None),
        ], "ord ord ord ord ord ord")
        self.classes([KERN, ("kern", 1, "mu")], "None None")

    def test_bin_that_stays(self):
        for before in ("ord", "close", "inner"):
            for after in ("ord", "op", "bin", "open", "inner"):
                second = "ord" if after == "bin" else after
                for made in (lambda kind: symbol(kind=kind), atom):
                    row = [atom(before), made("bin"), atom(after), atom("ord")]
                    self.classes(row, before + " bin " + second + " ord")

    def test_early(self):
        self.classes(atoms("bin ord"), "ord ord")
        self.classes(atoms("bin"), "ord")
        for before in ("bin", "op", "rel", "open", "punct"):
            self.classes(atoms("ord " + before + " bin ord"), "ord " + before + " ord ord")
        self.classes([symbol(kind="bin"), KERN, symbol(kind="bin"), symbol()], "ord None bin ord")

    def test_the_class_that_the_atom_before_has_then(self):
        self.classes(atoms("bin bin bin bin ord"), "ord bin ord bin ord")
        self.classes(atoms("ord bin bin bin bin"), "ord bin ord bin ord")
        self.classes(atoms("op bin bin bin rel bin bin ord"), "op ord bin ord rel ord bin ord")

    def test_late(self):
        self.classes(atoms("ord bin"), "ord ord")
        for after in ("rel", "close", "punct"):
            self.classes(atoms("ord bin " + after + " bin ord"), "ord ord " + after + (" bin" if after == "close" else " ord") + " ord")
        self.classes([symbol(kind="bin"), symbol(kind="bin"), KERN], "ord ord None")

    def test_kerns_do_not_matter(self):
        kerns = [KERN, ("kern", -3, "mu")]
        self.classes(kerns + atoms("bin ord"), "None None ord ord")
        self.classes(atoms("ord") + kerns + atoms("bin") + kerns + atoms("ord"), "ord None None bin None None ord")
        self.classes(atoms("ord bin") + kerns + atoms("rel"), "ord ord None None rel")
        self.classes(atoms("ord bin") + kerns, "ord ord None None")
        self.classes(atoms("op") + kerns + atoms("bin ord"), "op None None ord ord")

    def test_styles_and_choices_do_not_matter(self):
        choice = ("choice", [], [], [], [])
        self.classes([atom("ord"), ("style", 4), atom("bin"), choice, atom("ord")], "ord bin ord")
        self.classes([atom("ord"), atom("bin"), ("style", 4), choice], "ord ord")
        self.classes([("choice", atoms("ord bin"), [], [], []), ("choice", atoms("rel"), [], [], [])], "ord ord rel")

    def test_middles(self):
        middle = ("middle", None)
        rows = [
            ([atom("ord"), middle, atom("bin"), atom("ord")], "ord None ord ord"),
            ([atom("ord"), atom("bin"), middle, atom("ord")], "ord ord None ord"),
            ([atom("ord"), atom("bin"), KERN, middle, KERN, atom("bin"), atom("bin"), atom("ord")],
             "ord ord None None None ord bin ord"),
            ([middle, atom("bin"), middle], "None ord None"),
        ]
        for row, expected in rows:
            told = [str(place.kind) for place in places_of(self.fonts, row, 0, ())]
            self.assertEqual(" ".join(told), expected)


class Pairs(Case):

    def rows(self, pairs, formula, style=2):
        return arranged(some_fonts(pairs), formula, style)

    def test_kern(self):
        pairs = {("a", "b"): ("kern", 30), ("b", "a"): ("kern", -LIMIT), ("b", "b"): ("kern", 0)}
        told = self.rows(pairs, [symbol("a"), symbol("b"), symbol("a"), symbol("a"), symbol("b"), symbol("b")])
        self.assertEqual([entry[4] for entry in told], [30, -LIMIT, 0, 30, 0, 0])

    def test_second_of_any_class(self):
        for kind in ("ord", "bin", "rel", "open", "close", "punct"):
            for scripts in ((None, None), ([], None), ([KERN], [])):
                second = ("symbol", kind, 0, "b", *scripts)
                told = self.rows({("a", "b"): ("kern", 7)}, [symbol("a"), second, symbol("c")])
                self.assertEqual([entry[4] for entry in told], [7, 0, 0])
                told = self.rows({("a", "b"): ("join", "d")}, [symbol("a"), second, symbol("c")])
                self.assertEqual([entry[:2] for entry in told], [((0,), "ord"), ((2,), "ord")])

    def test_first_that_is_no_ord(self):
        for kind in ("rel", "open", "close", "punct", "bin"):
            told = self.rows({("a", "b"): ("kern", 7)}, [symbol(), symbol("a", kind=kind), symbol("b")])
            self.assertEqual([entry[4] for entry in told], [0, 0, 0])

    def test_early_but_not_late(self):
        pairs = {("a", "b"): ("kern", 7)}
        early = [symbol("a", kind="bin"), symbol("b")]
        self.assertEqual([entry[1:] for entry in self.rows(pairs, early)], [("ord", 2, 0, 7), ("ord", 2, 0, 0)])
        late = [symbol("c"), symbol("a", kind="bin"), symbol("b", kind="rel")]
        self.assertEqual([entry[4] for entry in self.rows(pairs, late)], [0, 0, 0])
        # Early comes first, so this one is not late, though a rel is next.
        both = [symbol("a", kind="bin"), symbol("b", kind="rel")]
        self.assertEqual([entry[4] for entry in self.rows(pairs, both)], [7, 0])

    def test_first_with_scripts(self):
        for scripts in (([], None), (None, []), ([KERN], [KERN])):
            for deed in (("kern", 7), ("join", "d")):
                told = self.rows({("a", "b"): deed}, [("symbol", "ord", 0, "a", *scripts), symbol("b")])
                self.assertEqual(told, [((0,), "ord", 2, 0, 0), ((1,), "ord", 2, 0, 0)])

    def test_just_behind(self):
        for between in (KERN, ("kern", 0, "mu"), atom("ord"), FENCE):
            told = self.rows({("a", "b"): ("kern", 7)}, [symbol("a"), between, symbol("b")])
            self.assertEqual([entry[4] for entry in told], [0, 0, 0])
        for between in (("style", 0), ("choice", [], [], [], [])):
            told = self.rows({("a", "b"): ("kern", 7)}, [symbol("a"), between, symbol("b")])
            self.assertEqual([entry[4] for entry in told], [7, 0])
        told = self.rows({("a", "b"): ("kern", 7)}, [("choice", [], [symbol("a")], [], []), symbol("b")])
        self.assertEqual([entry[4] for entry in told], [7, 0])
        told = self.rows({("a", "b"): ("kern", 7)}, [symbol("a"), ("list", "ord", [symbol("b")], None, None)])
        self.assertEqual([entry[4] for entry in told], [0, 0])

    def test_middle_between(self):
        row = [symbol("a"), ("middle", None), symbol("b")]
        places = places_of(some_fonts({("a", "b"): ("kern", 7)}), row, 2, ())
        self.assertEqual([(place.behind, place.is_text) for place in places], [(0, False)] * 3)

    def test_families(self):
        pairs = {(0, 0, "a", "b"): ("kern", 1), (1, 0, "a", "b"): ("kern", 2)}
        for one, other, behind in ((0, 0, 1), (1, 1, 2), (0, 1, 0), (1, 0, 0), (2, 2, 0), (3, 3, 0)):
            told = self.rows(pairs, [symbol("a", family=one), symbol("b", family=other)])
            self.assertEqual([entry[4] for entry in told], [behind, 0])

    def test_sizes(self):
        pairs = {(0, size, "a", "b"): ("kern", size + 1) for size in range(3)}
        sizes = (0, 0, 0, 0, 1, 1, 2, 2)
        for style in STYLES:
            self.assertEqual(self.rows(pairs, [symbol("a"), symbol("b")], style)[0][4], sizes[style] + 1)
            for told in (0, 2, 4, 6):
                behind = sizes[style] + 1 if sizes[style] == sizes[told] else 0
                rows = self.rows(pairs, [symbol("a"), ("style", told), symbol("b")], style)
                self.assertEqual([entry[4] for entry in rows], [behind, 0])

    def test_glyphs_that_lack(self):
        told = self.rows({("a", "b"): ("kern", 1)}, [symbol("x"), symbol("y"), symbol("a"), symbol("b")])
        self.assertEqual([entry[4] for entry in told], [0, 0, 1, 0])

    def test_join(self):
        pairs = {("a", "b"): ("join", "c")}
        told = self.rows(pairs, [symbol("a"), symbol("b", kind="rel"), symbol("d", kind="bin"), symbol("d")])
        self.assertEqual(told, [
            ((0,), "ord", 2, 0, 0), ((2,), "bin", 2, 4 * 1000 // 18, 0), ((3,), "ord", 2, 4 * 1000 // 18, 0),
        ])

    def test_joins_one_behind_another(self):
        pairs = {("a", "b"): ("join", "c"), ("c", "d"): ("join", "e"), ("e", "f"): ("kern", 9), ("f", "g"): ("join", "h")}
        told = self.rows(pairs, [symbol(name) for name in "abdfg"])
        self.assertEqual([(entry[0], entry[4]) for entry in told], [((0,), 9), ((3,), 0)])
        told = self.rows({("a", "a"): ("join", "a")}, [symbol("a")] * 100)
        self.assertEqual(told, [((0,), "ord", 2, 0, 0)])

    def test_a_join_ahead_of_a_pair(self):
        # The first two are joined before the last two are looked at.
        pairs = {("a", "b"): ("join", "c"), ("b", "d"): ("join", "e"), ("c", "d"): ("kern", 4)}
        told = self.rows(pairs, [symbol("a"), symbol("b"), symbol("d")])
        self.assertEqual([(entry[0], entry[4]) for entry in told], [((0,), 4), ((2,), 0)])

    def test_scripts_pass_over(self):
        sup, sub = [symbol("g")], [symbol("h")]
        fonts = some_fonts({("a", "b"): ("join", "c"), ("c", "d"): ("kern", 4)})
        row = [symbol("a"), symbol("b", sup, sub), symbol("d")]
        places = places_of(fonts, row, 2, ())
        self.assertEqual(places[0].item, ("symbol", "ord", 0, "c", sup, sub))
        self.assertEqual([(place.behind, place.is_text) for place in places], [(0, False), (0, False)])

    def test_style_of_a_joined_symbol(self):
        told = self.rows({("a", "b"): ("join", "c")}, [symbol("a"), ("style", 2), symbol("b"), symbol("d")], 0)
        self.assertEqual([entry[:3] for entry in told], [((0,), "ord", 0), ((3,), "ord", 2)])

    def test_joined_atoms_and_bins(self):
        pairs = {("a", "b"): ("join", "c"), ("b", "a"): ("join", "c")}
        # What was a rel is gone, so the bin behind it stays.
        told = self.rows(pairs, [symbol("a"), symbol("b", kind="rel"), symbol("d", kind="bin"), symbol("d")])
        self.assertEqual([entry[1] for entry in told], ["ord", "bin", "ord"])
        # What was early is joined, and what was a bin behind it is gone, too.
        told = self.rows(pairs, [symbol("a", kind="bin"), symbol("b", kind="bin"), symbol("d", kind="rel")])
        self.assertEqual([entry[:2] for entry in told], [((0,), "ord"), ((2,), "rel")])

    def test_text_symbols(self):
        fonts = some_fonts({("a", "b"): ("join", "c"), ("a", "d"): ("kern", 4)})
        rows = [
            ([symbol("a"), symbol("d"), symbol("g")], [True, True, False]),
            ([symbol("a")], [False]),
            ([symbol("a"), symbol("b")], [False]),
            ([symbol("a"), symbol("b"), symbol("g")], [True, False]),
            ([symbol("a"), symbol("b"), KERN, symbol("g")], [False, False, False]),
            ([symbol("a", [], None), symbol("d")], [False, False]),
            ([symbol("a", family=3), symbol("d", family=3), symbol("d")], [True, False, False]),
            ([symbol("a", kind="rel"), symbol("d", kind="rel")], [False, False]),
        ]
        for row, expected in rows:
            self.assertEqual([place.is_text for place in places_of(fonts, row, 2, ())], expected)


class Spaces(Case):

    def setUp(self):
        self.fonts = some_fonts()

    def test_all_pairs_in_all_styles(self):
        for style, one, other in itertools.product(STYLES, CLASSES, CLASSES):
            told = space(one, other, style)
            self.assertEqual(told, word_between(one, other, style), (one, other, style))
            self.assertEqual(space(style=style, other=other, one=one), told)

    def test_some_words(self):
        self.assertEqual(space("ord", "rel", 3), "thick")
        self.assertEqual(space("bin", "open", 0), "medium")
        self.assertEqual(space("inner", "op", 7), "thin")
        self.assertIsNone(space("punct", "op", 4))
        self.assertIsNone(space("bin", "bin", 0))

    def test_all_pairs_in_rows(self):
        quads = (1000, 1000, 1000, 1000, 700, 700, 505, 505)
        for style, one, other in itertools.product(STYLES, CLASSES, CLASSES):
            # Around a bin stands what keeps it a bin, if anything can.
            row = atoms("ord " + one + " " + other + " ord")
            entries = arranged(self.fonts, row, style)
            for ahead, entry in zip(entries, entries[1:]):
                word = word_between(ahead[1], entry[1], style)
                wide = SETTINGS[word] * quads[style] // 18 if word else 0
                self.assertEqual(entry[3:], (wide, 0), (row, style))
            self.assertEqual(entries[0][3], 0)

    def test_width(self):
        words = {"thin": ("ord", "op"), "medium": ("ord", "bin"), "thick": ("ord", "rel")}
        for word, (one, other) in words.items():
            for number, quad in ((0, 5), (5, 0), (1, 17), (1, 18), (1, 35), (7, 1000), (LIMIT, LIMIT)):
                fonts = fonts_with({("quad", 0): quad}, {word: number})
                told = arranged(fonts, atoms(one + " " + other + " ord"), 0)
                self.assertEqual(told[1][3], number * quad // 18)

    def test_the_style_of_the_second_one(self):
        row = [atom("ord"), ("style", 4), atom("rel"), ("style", 0), atom("ord"), ("style", 6), atom("op")]
        told = arranged(self.fonts, row, 2)
        self.assertEqual([entry[3] for entry in told], [0, 0, 5 * 1000 // 18, 3 * 505 // 18])

    def test_kerns_between(self):
        told = arranged(self.fonts, [KERN, atom("ord"), KERN, KERN, atom("rel"), KERN], 0)
        self.assertEqual([entry[3] for entry in told], [0, 0, 0, 0, 5 * 1000 // 18, 0])

    def test_classes_in_the_end(self):
        told = arranged(self.fonts, atoms("rel bin ord bin punct"), 0)
        self.assertEqual([entry[1] for entry in told], ["rel", "ord", "ord", "ord", "punct"])
        self.assertEqual([entry[3] for entry in told], [0, 5 * 1000 // 18, 0, 0, 0])

    def test_middles(self):
        middle = ("middle", None)
        for one, other in itertools.product(CLASSES, CLASSES):
            for style in STYLES:
                places = places_of(self.fonts, [atom("ord"), atom(one), KERN, middle, middle, KERN, atom(other)], style, ())
                ahead = word_between(places[1].kind, "close", style)
                behind = word_between("open", places[-1].kind, style)
                quad = (1000, 700, 505)[max(0, style // 2 - 1)]
                self.assertEqual(places[3].ahead, SETTINGS[ahead] * quad // 18 if ahead else 0)
                self.assertEqual((places[4].ahead, places[-1].ahead), (0, 0))
                self.assertIsNone(behind)
        places = places_of(self.fonts, [atom("punct"), middle], 0, ())
        self.assertEqual(places[1].ahead, 3 * 1000 // 18)
        places = places_of(self.fonts, [atom("punct"), ("style", 4), middle], 0, ())
        self.assertEqual(places[1].ahead, 0)

    def test_wrong_classes(self):
        values = [None, 0, "", "Ord", "ordinary", "middle", "kern", LIMIT] + odd_values()
        self.assertRefuses(space, {"one": "ord", "other": "op", "style": 7}, [
            ("one", values, InvalidArgument, {"part": "one"}),
            ("other", values, InvalidArgument, {"part": "other"}),
            ("style", no_styles(), InvalidArgument, {"part": "style"}),
        ])


class Arranged(Case):

    def test_tuples(self):
        fonts = some_fonts({("a", "b"): ("kern", -30)})
        formula = [symbol("a"), symbol("b"), KERN, symbol("c", kind="rel"), ("style", 4), symbol("a")]
        expected = [
            ((0,), "ord", 0, 0, -30), ((1,), "ord", 0, 0, 0), ((2,), None, 0, 0, 0),
            ((3,), "rel", 0, 5 * 1000 // 18, 0), ((5,), "ord", 4, 0, 0),
        ]
        told = arranged(fonts, formula, 0)
        self.assertEqual(told, expected)
        self.assertIs(told.__class__, list)
        self.assertTrue(all(entry.__class__ is tuple for entry in told))
        self.assertEqual(arranged(style=0, formula=formula, fonts=fonts), expected)

    def test_empty(self):
        for style in STYLES:
            self.assertEqual(arranged(some_fonts(), [], style), [])
            self.assertEqual(arranged(some_fonts(), [("style", 0), ("choice", [], [], [], [])], style), [])

    def test_what_lacks_does_not_matter(self):
        formula = [symbol("zz"), symbol("zz", family=3), ("accent", 3, "zz", [], None, None)]
        self.assertEqual([entry[1] for entry in arranged(some_fonts(), formula, 0)], ["ord", "ord", "ord"])

    def test_nothing_is_changed_or_kept(self):
        fonts = some_fonts({("a", "b"): ("join", "c")})
        formula = [symbol("a"), symbol("b", [KERN], [KERN]), ("choice", [KERN], [], [], []), atom("bin")]
        self.assertLeaves(lambda given: arranged(fonts, given, 0), formula)
        self.assertEqual(fonts, some_fonts({("a", "b"): ("join", "c")}))

    def test_wrong_arguments(self):
        wrong = [value for value in [None, 0, (), (KERN,)] + odd_values() if value != []]
        right = {"fonts": some_fonts(), "formula": nest(6, [KERN]), "style": 7}
        arranged(**{**right, "formula": [KERN] * 200})
        rows = [
            ((), [value for value in wrong if not isinstance(value, list)] + [[KERN] * 201]),
            ((0,), [[value] for value in wrong] + [[("middle", None)]]),
            ((1,), [[KERN, symbol("A")], [KERN, symbol(kind="op")], [KERN, ("style", True), 0]]),
            ((0, 4, 0), [[symbol(sup=[("middle", None)])]]),
            ((0, 2, 0, 2, 0, 2, 0, 2, 0, 2, 0, 2), [nest(7)]),
        ]
        for path, formulas in rows:
            self.assertRefuses(arranged, right, [
                ("fonts", no_fonts(), InvalidArgument, {"part": "fonts"}),
                ("formula", formulas, InvalidFormula, {"path": path}),
                ("style", no_styles(), InvalidArgument, {"part": "style"}),
            ])


class Slowly:
    """The points 24 to 27 once more, step by step, as they are written."""

    def __init__(self, pairs, families, formula, style):
        self.pairs = pairs
        self.families = families
        self.style = style
        self.row = []
        self.put(formula, (), style % 2)
        self.look()

    def put(self, formula, path, odd):
        for at, item in enumerate(formula):
            if item[0] == "style":
                self.style = item[1] + odd
            elif item[0] == "choice":
                way = 1 + (0, 0, 1, 1, 2, 2, 3, 3)[self.style]
                self.put(item[way], path + (at, way), odd)
            else:
                self.row.append({"path": path + (at,), "item": item, "style": self.style, "class": self.own(item)})

    def own(self, item):
        told = {"operator": "op", "fraction": "inner", "fence": "inner", "kern": None}
        return item[1] if item[0] in ("symbol", "list") else told.get(item[0], "ord")

    def look(self):
        at = 0
        while at < len(self.row):
            here = self.row[at]
            here["space"] = here["behind"] = here["late"] = 0
            if here["class"] is not None:
                self.settle(at)
                while self.joined(at):
                    pass
            at += 1
        atoms_there = [here for here in self.row if here["class"] is not None]
        for one, other in zip(atoms_there, atoms_there[1:]):
            word = word_between(one["class"], other["class"], other["style"])
            quad = (1000, 1000, 1000, 1000, 700, 700, 505, 505)[other["style"]]
            other["space"] = 0 if word is None else SETTINGS[word] * quad // 18

    def settle(self, at):
        here = self.row[at]
        before = [other["class"] for other in self.row[:at] if other["class"]]
        after = [other["class"] for other in self.row[at + 1:] if other["class"]]
        if here["class"] == "bin":
            if not before or before[-1] in ("bin", "op", "rel", "open", "punct"):
                here["class"] = "ord"
            elif not after or after[0] in ("rel", "close", "punct"):
                here["class"] = "ord"
                here["late"] = 1

    def joined(self, at):
        here = self.row[at]
        if here["item"][0] != "symbol" or here["class"] != "ord" or here["late"] or at + 1 == len(self.row):
            return False
        item, behind = here["item"], self.row[at + 1]
        if item[4:] != (None, None) or behind["item"][0] != "symbol" or behind["item"][2] != item[2]:
            return False
        sizes = [max(0, place["style"] // 2 - 1) for place in (here, behind)]
        if sizes[0] != sizes[1] or item[2] >= self.families:
            return False
        deed = self.pairs.get((item[3], behind["item"][3]), ("kern", 0))
        if deed[0] == "kern":
            here["behind"] = deed[1]
            return False
        here["item"] = ("symbol", "ord", item[2], deed[1]) + behind["item"][4:]
        del self.row[at + 1]
        return True

    def told(self):
        return [tuple(here[word] for word in ("path", "class", "style", "space", "behind")) for here in self.row]


class AtRandom(Case):

    def formula(self, chance, deep=0):
        found = []
        for _ in range(chance.randrange(9 - 2 * deep)):
            kind = chance.randrange(20)
            if kind < 13:
                scripts = chance.choice([(None, None)] * 5 + [([], None), (None, [KERN])])
                cls = chance.choice(["ord", "ord", "bin", "bin", "rel", "open", "close", "punct"])
                found.append(("symbol", cls, chance.choice([0, 0, 0, 1, 2]), chance.choice("abc"), *scripts))
            elif kind < 15:
                found.append(atom(chance.choice(CLASSES)))
            elif kind < 17:
                found.append(chance.choice([KERN, FENCE, ("operator", "never", [], None, None)]))
            elif kind < 18 or deep == 3:
                found.append(("style", chance.choice([0, 2, 4, 6])))
            else:
                found.append(("choice", *[self.formula(chance, deep + 1) for _ in range(4)]))
        return found

    def test_rows(self):
        chance = random.Random(5)
        for _ in range(1500):
            deeds = [("kern", 3), ("kern", -4), ("join", "a"), ("join", "b"), ("join", "c")]
            asked = chance.sample([(one, other) for one in "abc" for other in "abc"], 4)
            pairs = {pair: chance.choice(deeds) for pair in asked}
            formula = self.formula(chance)
            check_formula(formula)
            style = chance.randrange(8)
            told = arranged(some_fonts(pairs), formula, style)
            self.assertEqual(told, Slowly(pairs, 2, formula, style).told(), (pairs, formula, style))


if __name__ == "__main__":
    unittest.main()
