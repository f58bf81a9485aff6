"""Scripts: how far they are raised and lowered, and the boxes that have them."""

from mathboxes.boxes import wrong_part
from mathboxes.checks import check_amount, check_fonts, check_style
from mathboxes.errors import InvalidArgument
from mathboxes.measures import SIZES_OF_STYLES
from mathboxes.parts import Part, boxed

# For each style the size of its scripts, and the number that counts for the rise.
SIZES_OF_SCRIPTS = (1, 1, 1, 1, 2, 2, 2, 2)
RISE_NUMBERS = ("sup1", "sup3", "sup2", "sup3", "sup2", "sup3", "sup2", "sup3")
RISE_WORDS = ("nucleus", "font", "sup")
FALL_WORDS = ("nucleus", "font", "sub")


def scripted(fonts, style, nucleus, is_glyph, slant, sup, sub):
    """The box of a nucleus with its scripts."""
    check_scripts(fonts, style, nucleus, is_glyph, slant, sup, sub)
    return boxed(with_scripts(fonts, style, nucleus, is_glyph, slant, sup, sub))


def shifts(fonts, style, nucleus, is_glyph, sup, sub):
    """How far the sup is raised and the sub is lowered."""
    check_scripts(fonts, style, nucleus, is_glyph, 0, sup, sub)
    return shifts_of(fonts, style, nucleus, is_glyph, sup, sub)


def ruling(fonts, style, nucleus, is_glyph, sup, sub):
    """What rules the rise, the fall, and what the gap does to them."""
    check_scripts(fonts, style, nucleus, is_glyph, 0, sup, sub)
    rise_word, fall_word, gap_word = None, None, None
    if sup is not None:
        rises = rise_bounds(fonts, style, nucleus, is_glyph, sup)
        rise_word = RISE_WORDS[rises.index(max(rises))]
    if sub is not None:
        falls = fall_bounds(fonts, style, nucleus, is_glyph, sup, sub)
        fall_word = FALL_WORDS[falls.index(max(falls))]
    if sup is not None and sub is not None and spare_gap(fonts, style, max(rises), max(falls), sup, sub) < 0:
        gap_word = "lift" if lift_of(fonts, style, max(rises), sup) > 0 else "gap"
    return (rise_word, fall_word, gap_word)


def rooms(fonts, style, nucleus, is_glyph, sup, sub):
    """How much the depth of the sup, and the height of the sub, may grow so that rise and fall stay."""
    check_scripts(fonts, style, nucleus, is_glyph, 0, sup, sub)
    sup_room, sub_room = None, None
    if sup is not None:
        rises = rise_bounds(fonts, style, nucleus, is_glyph, sup)
        sup_room = max(rises) - rises[2]
    if sub is not None:
        falls = fall_bounds(fonts, style, nucleus, is_glyph, sup, sub)
        if sup is None:
            return (None, max(falls) - falls[2])
        # A gap that is too small already makes every bit of growth move something.
        sub_room = max(0, spare_gap(fonts, style, max(rises), max(falls), sup, sub))
        sup_room = min(sup_room, sub_room)
    return (sup_room, sub_room)


def check_scripts(fonts, style, nucleus, is_glyph, slant, sup, sub):
    check_fonts(fonts)
    check_style(style)
    if wrong_part(nucleus) is not None:
        raise InvalidArgument("nucleus")
    if not isinstance(is_glyph, bool):
        raise InvalidArgument("is_glyph")
    check_amount(slant, "slant")
    if sup is not None and wrong_part(sup) is not None:
        raise InvalidArgument("sup")
    if sub is not None and wrong_part(sub) is not None:
        raise InvalidArgument("sub")


def with_scripts(fonts, style, nucleus, is_glyph, slant, sup, sub):
    """As scripted, without its checks: what was made here may be too great for them."""
    rise, fall = shifts_of(fonts, style, nucleus, is_glyph, sup, sub)
    behind = fonts.setting_of("scriptspace")
    widths, heights, depths = [0], [0, nucleus.height], [0, nucleus.depth]
    marks = [(0, 0, nucleus)]
    if sup is not None:
        widths.append(slant + sup.width + behind)
        heights.append(rise + sup.height)
        depths.append(sup.depth - rise)
        marks.append((nucleus.width + slant, rise, sup))
    if sub is not None:
        widths.append(sub.width + behind)
        heights.append(sub.height - fall)
        depths.append(fall + sub.depth)
        marks.append((nucleus.width, -fall, sub))
    return Part(nucleus.width + fonts.greatest(widths), fonts.greatest(heights), fonts.greatest(depths), marks)


def shifts_of(fonts, style, nucleus, is_glyph, sup, sub):
    """As shifts, without its checks."""
    rise, fall = None, None
    if sup is not None:
        rise = fonts.greatest(rise_bounds(fonts, style, nucleus, is_glyph, sup))
    if sub is not None:
        fall = fonts.greatest(fall_bounds(fonts, style, nucleus, is_glyph, sup, sub))
    if sup is None or sub is None:
        return (rise, fall)
    spare = spare_gap(fonts, style, rise, fall, sup, sub)
    if fonts.reaches(spare, 0):
        return (rise, fall)
    lift = fonts.greatest([0, lift_of(fonts, style, rise, sup)])
    return (rise + lift, fall - spare - lift)


def rise_bounds(fonts, style, nucleus, is_glyph, sup):
    """Of what the rise is the greatest, ahead of a look at the gap; in the order of RISE_WORDS."""
    size = SIZES_OF_STYLES[style]
    by_nucleus = 0 if is_glyph else nucleus.height - fonts.number_of("supdrop", SIZES_OF_SCRIPTS[style])
    return [
        by_nucleus, fonts.number_of(RISE_NUMBERS[style], size), sup.depth + fonts.number_of("xheight", size) // 4,
    ]


def fall_bounds(fonts, style, nucleus, is_glyph, sup, sub):
    """Of what the fall is the greatest, ahead of a look at the gap; in the order of FALL_WORDS."""
    size = SIZES_OF_STYLES[style]
    by_nucleus = 0 if is_glyph else nucleus.depth + fonts.number_of("subdrop", SIZES_OF_SCRIPTS[style])
    if sup is None:
        return [by_nucleus, fonts.number_of("sub1", size), sub.height - highest_end(fonts, style)]
    return [by_nucleus, fonts.number_of("sub2", size)]


def highest_end(fonts, style):
    return 4 * fonts.number_of("xheight", SIZES_OF_STYLES[style]) // 5


def spare_gap(fonts, style, rise, fall, sup, sub):
    """How much greater the gap between both scripts is than it must be; it lacks something below 0."""
    gap = (rise - sup.depth) - (sub.height - fall)
    return gap - 4 * fonts.number_of("rule", SIZES_OF_STYLES[style])


def lift_of(fonts, style, rise, sup):
    """How far both scripts must move up where the gap has lowered the sub; not at all below 0."""
    return highest_end(fonts, style) - (rise - sup.depth)
