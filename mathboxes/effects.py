"""What changes of a formula, of its style and of the fonts' numbers do to a formula's box."""

from mathboxes.checks import check_fonts, check_signed, check_style
from mathboxes.compare import deeds, marks_by_path, parts_by_style, sizes_of
from mathboxes.faces import NUMBER_WORDS, SETTING_WORDS, is_number_for
from mathboxes.formulas import check_formula, replaced, walked
from mathboxes.kinds import SIZES
from mathboxes.layout import box_of, check_layout, formula_part
from mathboxes.lists import style_behind, style_within, taken_of
from mathboxes.parts import boxed
from mathboxes.shapes import formulas_of
from mathboxes.watches import NotedFonts, RememberingFonts


def replaced_marks(fonts, formula, style, path, item):
    """What becomes of all other marks if another item stands at a path, as tuples (path, deed)."""
    check_layout(fonts, formula, style)
    other = replaced(formula, path, item)
    before = marks_by_path(box_of(fonts, formula, style))
    after = marks_by_path(box_of(fonts, other, style))
    left = [there for there, _, _ in walked(formula) if there[:len(path)] != path]
    return deeds(left, before, after)


def idle_paths(formula, style):
    """The paths of all items that are not read in a style."""
    check_formula(formula)
    check_style(style)
    found = []
    put_idle(found, formula, style, ())
    return found


def style_sizes(fonts, formula):
    """Width, height and depth of a formula's box in all styles."""
    check_fonts(fonts)
    check_formula(formula)
    return [sizes_of(part) for part in parts_by_style(fonts, formula)]


def fitting_style(fonts, formula, width, height, depth):
    """The first style in which a formula's box is not greater than told, or None."""
    sizes = style_sizes(fonts, formula)
    check_signed(width, "width")
    check_signed(height, "height")
    check_signed(depth, "depth")
    for style, (wide, high, deep) in enumerate(sizes):
        if wide <= width and high <= height and deep <= depth:
            return style
    return None


def felt_numbers(fonts, formula, style):
    """The places of all numbers, as tuples (word, size), that change a formula's box if they become greater by 1."""
    check_layout(fonts, formula, style)
    noted = NotedFonts(fonts)
    part = formula_part(noted, formula, style, ())
    box = boxed(part)
    found = []
    for word, size in number_places():
        number = fonts.number_at(word, size)
        # What is not looked at can't change anything.
        if noted.has_noted(word, size) and is_number_for(word, number + 1):
            other = formula_part(RememberingFonts(noted, word, size, number + 1), formula, style, ())
            if sizes_of(other) != sizes_of(part) or boxed(other) != box:
                found.append((word, size))
    return found


def number_places():
    numbers = [(word, size) for size in range(SIZES) for word in NUMBER_WORDS]
    return numbers + [(word, None) for word in SETTING_WORDS]


def put_idle(found, formula, style, path):
    """Put the paths of a read formula's items that are not read; return the style that holds at its end."""
    for at, item in enumerate(formula):
        word = item[0]
        if word == "style":
            style = style_behind(item, style)
        taken = taken_of(style)
        for way, inner in formulas_of(item):
            there = (*path, at, *way)
            if word != "choice":
                put_idle(found, inner, style_within(word, way[0], style), there)
            elif way == (taken,):
                style = put_idle(found, inner, style, there)
            else:
                found.extend([(*there, *rest) for rest, _, _ in walked(inner)])
    return style
