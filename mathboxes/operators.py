"""Operators: their symbols, and limits above and below."""

from mathboxes.boxes import check_box_argument
from mathboxes.checks import check_amount, check_fonts, check_style
from mathboxes.errors import InvalidArgument
from mathboxes.measures import half, size_of
from mathboxes.parts import Part, boxed


def operator_symbol(fonts, style, family, name, is_wide):
    """The box of a glyph that is an operator, on the axis, and its slant."""
    check_fonts(fonts)
    check_style(style)
    fonts.glyph(family, size_of(style), name)
    if not isinstance(is_wide, bool):
        raise InvalidArgument("is_wide")
    part, slant = operator_glyph(fonts, style, family, name, is_wide, ())
    return boxed(part), slant


def limited(fonts, style, nucleus, slant, sup, sub):
    """The box of a nucleus with limits above and below it."""
    check_nucleus(fonts, style, nucleus)
    check_amount(slant, "slant")
    check_limits(sup, sub)
    return boxed(with_limits(fonts, style, nucleus, slant, sup, sub))


def limit_shifts(fonts, style, nucleus, sup, sub):
    """How far the sup stands above the nucleus, and the sub below it."""
    check_nucleus(fonts, style, nucleus)
    check_limits(sup, sub)
    return limit_shifts_of(fonts, style, nucleus, sup, sub)


def limit_rooms(fonts, style, sup, sub):
    """How much the depth of the sup, and the height of the sub, may grow so that both stay."""
    check_fonts(fonts)
    check_style(style)
    check_limits(sup, sub)
    size = size_of(style)
    sup_room, sub_room = None, None
    if sup is not None:
        sup_room = max(0, fonts.number_of("gap3", size) - fonts.number_of("gap1", size) - sup.depth)
    if sub is not None:
        sub_room = max(0, fonts.number_of("gap4", size) - fonts.number_of("gap2", size) - sub.height)
    return (sup_room, sub_room)


def check_nucleus(fonts, style, nucleus):
    check_fonts(fonts)
    check_style(style)
    check_box_argument(nucleus, "nucleus")


def check_limits(sup, sub):
    if sup is not None:
        check_box_argument(sup, "sup")
    if sub is not None:
        check_box_argument(sub, "sub")


def operator_glyph(fonts, style, family, name, is_wide, path):
    """As operator_symbol, without its checks, with a mark of a path; the glyph must be there."""
    size = size_of(style)
    later = fonts.glyph_if_any(family, size, name)[4]
    taken = name if later is None or style > 1 else later
    width, height, depth, slant = fonts.glyph_if_any(family, size, taken)[:4]
    lower = half(height - depth) - fonts.number_of("axis", size)
    mark = (0, -lower, ("glyph", path, family, size, taken))
    return Part(width + slant if is_wide else width, height - lower, depth + lower, [mark]), slant


def with_limits(fonts, style, nucleus, slant, sup, sub):
    """As limited, without its checks: what was made here may be too great for them."""
    rise, fall = limit_shifts_of(fonts, style, nucleus, sup, sub)
    width = fonts.greatest([part.width for part in (nucleus, sup, sub) if part is not None])
    beyond = fonts.number_of("gap5", size_of(style))
    height, depth = nucleus.height, nucleus.depth
    marks = [((width - nucleus.width) // 2, 0, nucleus)]
    if sup is not None:
        height = rise + sup.height + beyond
        marks.append(((width - sup.width) // 2 + half(slant), rise, sup))
    if sub is not None:
        depth = fall + sub.depth + beyond
        marks.append(((width - sub.width) // 2 - half(slant), -fall, sub))
    return Part(width, height, depth, marks)


def limit_shifts_of(fonts, style, nucleus, sup, sub):
    """As limit_shifts, without its checks."""
    size = size_of(style)
    rise, fall = None, None
    if sup is not None:
        free = fonts.greatest([fonts.number_of("gap3", size), fonts.number_of("gap1", size) + sup.depth])
        rise = nucleus.height + free
    if sub is not None:
        free = fonts.greatest([fonts.number_of("gap4", size), fonts.number_of("gap2", size) + sub.height])
        fall = nucleus.depth + free
    return (rise, fall)
