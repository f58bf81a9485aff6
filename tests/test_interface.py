"""The names, parameters and errors that the interface lists (points 2 and 4 to 86)."""

import inspect
import unittest

from mathboxes import (
    accents, boxes, compare, delimiters, effects, errors, fonts, formulas, fractions, layout, lines, lists, moving,
    operators, scripts, tables,
)

ERRORS = {
    "InvalidFont": ("part", "at"),
    "InvalidFormula": ("path",),
    "InvalidBox": ("part",),
    "InvalidArgument": ("part",),
    "InvalidNumber": ("number",),
    "InvalidPath": ("path",),
    "NoGlyph": ("family", "name"),
    "LimitExceeded": ("limit",),
}

FUNCTIONS = {
    fonts: {},
    boxes: {
        "check_box": "(box)",
        "beside": "(boxes)",
        "moved": "(box, dx, dy)",
        "together": "(width, height, depth, placed)",
        "widened": "(box, width)",
        "ink": "(box)",
        "same_ink": "(one, other)",
        "first_unlike": "(one, other)",
        "extent": "(fonts, box)",
    },
    formulas: {
        "check_formula": "(formula)",
        "paths": "(formula)",
        "count": "(formula)",
        "depth_of": "(formula)",
        "item_at": "(formula, path)",
        "replaced": "(formula, path, item)",
        "symbols": "(formula)",
    },
    lists: {
        "sup_style": "(style)",
        "sub_style": "(style)",
        "num_style": "(style)",
        "den_style": "(style)",
        "cramped": "(style)",
        "space": "(one, other, style)",
        "arranged": "(fonts, formula, style)",
    },
    scripts: {
        "scripted": "(fonts, style, nucleus, is_glyph, slant, sup, sub)",
        "shifts": "(fonts, style, nucleus, is_glyph, sup, sub)",
        "ruling": "(fonts, style, nucleus, is_glyph, sup, sub)",
        "rooms": "(fonts, style, nucleus, is_glyph, sup, sub)",
    },
    delimiters: {
        "candidates": "(fonts, size, delimiter)",
        "chosen": "(fonts, size, delimiter, least)",
        "grown": "(fonts, size, delimiter, least)",
        "totals": "(fonts, size, delimiter)",
        "fence_least": "(fonts, size, height, depth)",
        "root": "(fonts, style, delimiter, inner)",
    },
    accents: {
        "overlined": "(fonts, style, inner)",
        "underlined": "(fonts, style, inner)",
        "centered": "(fonts, style, inner)",
        "accented": "(fonts, style, family, name, inner, old_inner=None, skew=0)",
        "accent_steps": "(fonts, family, size, name)",
    },
    layout: {
        "layout": "(fonts, formula, style)",
        "parts_of": "(fonts, formula, style)",
    },
    fractions: {
        "fraction": "(fonts, style, num, den, *, thickness=None, left=None, right=None)",
        "fraction_shifts": "(fonts, style, num, den, *, thickness=None)",
    },
    operators: {
        "operator_symbol": "(fonts, style, family, name, is_wide)",
        "limited": "(fonts, style, nucleus, slant, sup, sub)",
        "limit_shifts": "(fonts, style, nucleus, sup, sub)",
        "limit_rooms": "(fonts, style, sup, sub)",
    },
    tables: {
        "tabled": "(fonts, style, columns, rows)",
        "table_grid": "(fonts, style, columns, rows)",
        "table_rooms": "(fonts, style, columns, rows)",
    },
    lines: {
        "break_places": "(fonts, formula, style, where)",
        "lines_box": "(fonts, formula, style, where, breaks)",
        "line_costs": "(fonts, formula, style, where, breaks, width, costs)",
        "broken": "(fonts, formula, style, where, width, costs)",
        "least_page": "(fonts, formula, style, where, most)",
        "pages": "(fonts, formula, style, where, costs, first, last)",
    },
    moving: {
        "pieces": "(fonts, formula, style, word, size, step, last)",
        "first_step": "(fonts, formula, style, word, size, step, last, part, bound)",
        "ranges": "(fonts, formula, style, word, size, step, last)",
        "parting": "(fonts, formula, other, style, word, size, step, last)",
    },
    compare: {
        "marks_of": "(fonts, formula, style)",
        "what_moves": "(fonts, formula, one, other)",
        "same_ink_styles": "(fonts, one, other)",
        "alike_styles": "(fonts, formula)",
    },
    effects: {
        "replaced_marks": "(fonts, formula, style, path, item)",
        "idle_paths": "(formula, style)",
        "style_sizes": "(fonts, formula)",
        "felt_numbers": "(fonts, formula, style)",
        "fitting_style": "(fonts, formula, width, height, depth)",
    },
}

METHODS = {
    fonts.Fonts: {
        "__init__": "(self, families, numbers, settings, *, skew=None)",
        "__eq__": "(self, other)",
        "family_count": "(self)",
        "glyph": "(self, family, size, name)",
        "chain": "(self, family, size, name)",
        "number_at": "(self, word, size)",
        "changed": "(self, word, size, number)",
    },
    boxes.Box: {
        "__init__": "(self, width, height, depth, marks=())",
        "__eq__": "(self, other)",
    },
}


class Interface(unittest.TestCase):

    def test_errors(self):
        self.assertEqual(errors.FormulaError.__bases__, (ArithmeticError,))
        for name, attributes in ERRORS.items():
            kind = getattr(errors, name)
            self.assertEqual(kind.__bases__, (errors.FormulaError,))
            self.assertEqual(kind.__module__, "mathboxes.errors")
            values = [object() for _ in attributes]
            for error in (kind(*values), kind(**dict(zip(attributes, values)))):
                self.assertEqual(vars(error), dict(zip(attributes, values)))

    def test_functions(self):
        for module, functions in FUNCTIONS.items():
            for name, parameters in functions.items():
                function = getattr(module, name)
                self.assertTrue(inspect.isfunction(function), name)
                self.assertEqual(function.__module__, module.__name__)
                self.assertEqual(str(inspect.signature(function)), parameters, name)

    def test_methods_stand_in_their_classes(self):
        for kind, methods in METHODS.items():
            for name, parameters in methods.items():
                self.assertEqual(str(inspect.signature(vars(kind)[name])), parameters, name)
        self.assertEqual(fonts.Fonts.__module__, "mathboxes.fonts")
        self.assertEqual(boxes.Box.__module__, "mathboxes.boxes")

    def test_arguments_by_name(self):
        box = boxes.Box(marks=(), depth=1, height=2, width=3)
        self.assertEqual(boxes.moved(dy=1, dx=2, box=box), boxes.Box(5, 3, 0))
        self.assertEqual(boxes.together(placed=[], depth=1, height=2, width=3), box)
        item = ("kern", 1, "mu")
        self.assertEqual(formulas.replaced(item=item, path=(0,), formula=[("style", 0)]), [item])


if __name__ == "__main__":
    unittest.main()
