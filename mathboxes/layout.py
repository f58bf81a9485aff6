"""Whole formulas: the boxes of their items, put side by side in rows."""

from mathboxes.accents import accented_part, centered_part, overlined_part, underlined_part
from mathboxes.checks import check_fonts, check_style
from mathboxes.delimiters import fence_least_of, grown_part, root_part
from mathboxes.errors import NoGlyph
from mathboxes.formulas import check_formula
from mathboxes.fractions import fraction_part
from mathboxes.lists import Place, class_at_end, places_of, room_between, style_within
from mathboxes.operators import operator_glyph, with_limits
from mathboxes.parts import Part, boxed, side_by_side
from mathboxes.scripts import with_scripts
from mathboxes.shapes import PLACES
from mathboxes.tables import table_part


def layout(fonts, formula, style):
    """The box of a formula."""
    check_layout(fonts, formula, style)
    return box_of(fonts, formula, style)


def parts_of(fonts, formula, style):
    """What stands at each place of the row, as tuples (path, class, space ahead, box)."""
    check_layout(fonts, formula, style)
    return [
        (place.path, place.kind, place.ahead, boxed(part))
        for place, part in placed_parts(fonts, formula, style)
    ]


def check_layout(fonts, formula, style):
    check_fonts(fonts)
    check_formula(formula)
    check_style(style)


def placed_parts(fonts, formula, style):
    """The places of a formula's row, each one with its box, beside which the kern of a pair stands."""
    return [
        (place, side_by_side(fonts, [part_at(fonts, place), Part(place.behind, 0, 0, [])]))
        for place in places_of(fonts, formula, style, ())
    ]


# All functions from here on take what was checked, and raise NoGlyph only.
# The path is always the one with which the paths of what is laid out begin.


def box_of(fonts, formula, style):
    return boxed(formula_part(fonts, formula, style, ()))


def formula_part(fonts, formula, style, path):
    if len(formula) == 0:
        return Part(0, 0, 0, [])
    if len(formula) == 1 and formula[0][0] == "symbol":
        # Very many formulas are one symbol; it is all of its row, whatever its class is.
        return symbol_part(fonts, Place((*path, 0), formula[0], style))
    places = places_of(fonts, formula, style, path)
    return row_part(fonts, places, [part_at(fonts, place) for place in places])


def row_part(fonts, places, parts):
    """The boxes of a row side by side, each one behind its space."""
    width = 0
    heights, depths = [0], [0]
    marks = []
    for place, part in zip(places, parts):
        width += place.ahead
        if len(part.marks) == 1:
            # What stands alone in its part can as well stand in the row.
            dx, dy, mark = part.marks[0]
            marks.append((width + dx, dy, mark))
        elif part.marks:
            marks.append((width, 0, part))
        heights.append(part.height)
        depths.append(part.depth)
        width += part.width + place.behind
    return Part(width, fonts.greatest(heights), fonts.greatest(depths), marks)


def part_at(fonts, place):
    """The box of an atom with its scripts, or of a kern."""
    if fonts.remembers:
        part = fonts.remembered(place)
        if part is not None:
            return part
    maker = MAKERS[place.item[0]]
    part = maker(fonts, place)
    if fonts.remembers:
        fonts.remember(place, part)
    return part


def kern_part(fonts, place):
    _, number, unit = place.item
    if unit == "mu":
        number = number * fonts.number_of("quad", place.size) // 18
    return Part(number, 0, 0, [])


def symbol_part(fonts, place):
    _, _, family, name, sup, sub = place.item
    glyph = fonts.glyph_if_any(family, place.size, name)
    if glyph is None:
        raise NoGlyph(family, name)
    width, height, depth, slant, _, _ = glyph
    if place.is_text and fonts.is_spaced(family, place.size):
        slant = 0
    if sub is None:
        width += slant
        slant = 0
    part = Part(width, height, depth, [(0, 0, ("glyph", place.path, family, place.size, name))])
    if sup is None and sub is None:
        return part
    sup_part, sub_part = script_parts(fonts, place)
    return with_scripts(fonts, place.style, part, True, slant, sup_part, sub_part)


def script_parts(fonts, place):
    """The boxes of both scripts of an item, None for one that is not there."""
    sup_at, sub_at = PLACES[place.item[0]][1]
    return script_part(fonts, place, sup_at), script_part(fonts, place, sub_at)


def script_part(fonts, place, at):
    formula = place.item[at]
    if formula is None:
        return None
    style = style_within(place.item[0], at, place.style)
    return formula_part(fonts, formula, style, (*place.scripts_path, at))


def inner_part(fonts, place, at):
    """The box of the formula that stands somewhere in an item."""
    style = style_within(place.item[0], at, place.style)
    return formula_part(fonts, place.item[at], style, (*place.path, at))


def with_own_scripts(fonts, place, nucleus):
    """The box of an item that counts as no glyph, with its scripts, if it has any."""
    sup, sub = script_parts(fonts, place)
    if sup is None and sub is None:
        return nucleus
    return with_scripts(fonts, place.style, nucleus, False, 0, sup, sub)


def list_part(fonts, place):
    return with_own_scripts(fonts, place, inner_part(fonts, place, 2))


def over_part(fonts, place):
    inner = inner_part(fonts, place, 1)
    return with_own_scripts(fonts, place, overlined_part(fonts, place.style, inner, place.path))


def under_part(fonts, place):
    inner = inner_part(fonts, place, 1)
    return with_own_scripts(fonts, place, underlined_part(fonts, place.style, inner, place.path))


def center_part(fonts, place):
    inner = inner_part(fonts, place, 1)
    return with_own_scripts(fonts, place, centered_part(fonts, place.style, inner))


def rooted_part(fonts, place):
    inner = inner_part(fonts, place, 2)
    return with_own_scripts(fonts, place, root_part(fonts, place.style, place.item[1], inner, place.path))


def fractioned_part(fonts, place):
    num = inner_part(fonts, place, 1)
    den = inner_part(fonts, place, 2)
    return fraction_part(fonts, place.style, num, den, place.item[3:], place.path)


def is_lone(formula):
    """Whether a formula is one symbol without scripts."""
    if len(formula) != 1 or formula[0][0] != "symbol":
        return False
    return formula[0][4] is None and formula[0][5] is None


def accent_part(fonts, place):
    _, family, name, formula, sup, sub = place.item
    glyph = fonts.glyph_if_any(family, place.size, name)
    if glyph is None:
        raise NoGlyph(family, name)
    accent = (family, name, glyph)
    old = inner_part(fonts, place, 3)
    if not is_lone(formula):
        part = accented_part(fonts, place.style, accent, old, old, 0, place.path)
        return with_own_scripts(fonts, place, part)
    _, kind, symbol_family, symbol_name, _, _ = formula[0]
    skew = fonts.skew_of(symbol_family, place.size, symbol_name)
    inner = old
    if sup is not None or sub is not None:
        # The scripts pass to the symbol, ahead of the accent.
        lone = Place((*place.path, 3, 0), ("symbol", kind, symbol_family, symbol_name, sup, sub), place.style)
        lone.scripts_path = place.path
        inner = symbol_part(fonts, lone)
    return accented_part(fonts, place.style, accent, inner, old, skew, place.path)


def operator_part(fonts, place):
    _, word, formula, sup, sub = place.item
    has_limits = word == "always" or (word == "display" and place.style <= 1)
    slant = 0
    if is_lone(formula):
        _, _, family, name, _, _ = formula[0]
        if fonts.glyph_if_any(family, place.size, name) is None:
            raise NoGlyph(family, name)
        is_wide = has_limits or sub is None
        path = (*place.path, 2, 0)
        nucleus, slant = operator_glyph(fonts, place.style, family, name, is_wide, path)
        if not has_limits and sub is None:
            slant = 0
    else:
        nucleus = inner_part(fonts, place, 2)
    if sup is None and sub is None:
        return nucleus
    sup_part, sub_part = script_parts(fonts, place)
    if has_limits:
        return with_limits(fonts, place.style, nucleus, slant, sup_part, sub_part)
    return with_scripts(fonts, place.style, nucleus, False, slant, sup_part, sub_part)


def fence_part(fonts, place):
    _, left, formula, right, _, _ = place.item
    size = place.size
    places = places_of(fonts, formula, place.style, (*place.path, 2))
    parts = [None if inner.item[0] == "middle" else part_at(fonts, inner) for inner in places]
    height = fonts.greatest([0] + [part.height for part in parts if part is not None])
    depth = fonts.greatest([0] + [part.depth for part in parts if part is not None])
    least = fence_least_of(fonts, size, height, depth)
    for at, inner in enumerate(places):
        if parts[at] is None:
            parts[at] = grown_part(fonts, size, inner.item[1], least, inner.path)
    room = room_between(fonts, class_at_end(places), "close", place.style)
    fence = side_by_side(fonts, [
        grown_part(fonts, size, left, least, place.path), row_part(fonts, places, parts), Part(room, 0, 0, []),
        grown_part(fonts, size, right, least, place.path),
    ])
    return with_own_scripts(fonts, place, fence)


def tabled_part(fonts, place):
    _, columns, rows, _, _ = place.item
    cells = [
        row if row == "rule" else [
            formula_part(fonts, formula, place.style, (*place.path, 2, row_at, at)) for at, formula in enumerate(row)
        ]
        for row_at, row in enumerate(rows)
    ]
    return with_own_scripts(fonts, place, table_part(fonts, place.style, columns, cells, place.path))


MAKERS = {
    "symbol": symbol_part,
    "list": list_part,
    "over": over_part,
    "under": under_part,
    "center": center_part,
    "root": rooted_part,
    "accent": accent_part,
    "operator": operator_part,
    "fence": fence_part,
    "fraction": fractioned_part,
    "table": tabled_part,
    "kern": kern_part,
}
