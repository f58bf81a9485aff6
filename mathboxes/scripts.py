"""Scripts: how far they are raised and lowered, and the boxes that have them."""

from mathboxes.boxes import Box, check_box_argument, marks_moved
from mathboxes.checks import check_amount, check_fonts, check_style
from mathboxes.errors import InvalidArgument
from mathboxes.lists import sub_style, sup_style
from mathboxes.measures import size_of


def scripted(fonts, style, nucleus, is_glyph, slant, sup, sub):
    """The box of a nucleus with its scripts."""
    check_scripts(fonts, style, nucleus, is_glyph, slant, sup, sub)
    return with_scripts(fonts, style, nucleus, is_glyph, slant, sup, sub)


def shifts(fonts, style, nucleus, is_glyph, sup, sub):
    """How far the sup is raised and the sub is lowered."""
    check_scripts(fonts, style, nucleus, is_glyph, 0, sup, sub)
    return shifts_of(fonts, style, nucleus, is_glyph, sup, sub)


def ruling(fonts, style, nucleus, is_glyph, sup, sub):
    """What rules the rise, the fall, and what the gap does to them."""
    check_scripts(fonts, style, nucleus, is_glyph, 0, sup, sub)
    rise, fall = first_shifts(fonts, style, nucleus, is_glyph, sup, sub)
    rise_word = None if sup is None else rise[0]
    fall_word = None if sub is None else fall[0]
    if sup is None or sub is None or spare_gap(fonts, style, rise[1], fall[1], sup, sub) >= 0:
        return (rise_word, fall_word, None)
    return (rise_word, fall_word, "lift" if lift_of(fonts, style, rise[1], sup) > 0 else "gap")


def rooms(fonts, style, nucleus, is_glyph, sup, sub):
    """How much the depth of the sup, and the height of the sub, may grow so that rise and fall stay."""
    check_scripts(fonts, style, nucleus, is_glyph, 0, sup, sub)
    rise, fall = first_shifts(fonts, style, nucleus, is_glyph, sup, sub)
    if sup is None and sub is None:
        return (None, None)
    if sub is None:
        return (rise[1] - least_rise(fonts, style, sup), None)
    if sup is None:
        return (None, fall[1] - least_fall(fonts, style, sub))
    # A gap that is too small already makes every bit of growth move something.
    spare = max(0, spare_gap(fonts, style, rise[1], fall[1], sup, sub))
    return (min(spare, rise[1] - least_rise(fonts, style, sup)), spare)


def check_scripts(fonts, style, nucleus, is_glyph, slant, sup, sub):
    check_fonts(fonts)
    check_style(style)
    check_box_argument(nucleus, "nucleus")
    if not isinstance(is_glyph, bool):
        raise InvalidArgument("is_glyph")
    check_amount(slant, "slant")
    if sup is not None:
        check_box_argument(sup, "sup")
    if sub is not None:
        check_box_argument(sub, "sub")


def with_scripts(fonts, style, nucleus, is_glyph, slant, sup, sub):
    """As scripted, without its checks: what was made here may be too great for them."""
    rise, fall = shifts_of(fonts, style, nucleus, is_glyph, sup, sub)
    behind = fonts.setting_of("scriptspace")
    widths, heights, depths = [0], [0, nucleus.height], [0, nucleus.depth]
    marks = list(nucleus.marks)
    if sup is not None:
        widths.append(slant + sup.width + behind)
        heights.append(rise + sup.height)
        depths.append(sup.depth - rise)
        marks.extend(marks_moved(sup, nucleus.width + slant, rise))
    if sub is not None:
        widths.append(sub.width + behind)
        heights.append(sub.height - fall)
        depths.append(fall + sub.depth)
        marks.extend(marks_moved(sub, nucleus.width, -fall))
    return Box(nucleus.width + max(widths), max(heights), max(depths), marks)


def shifts_of(fonts, style, nucleus, is_glyph, sup, sub):
    """As shifts, without its checks."""
    first_rise, first_fall = first_shifts(fonts, style, nucleus, is_glyph, sup, sub)
    rise = None if sup is None else first_rise[1]
    fall = None if sub is None else first_fall[1]
    if sup is None or sub is None:
        return (rise, fall)
    spare = spare_gap(fonts, style, rise, fall, sup, sub)
    if spare >= 0:
        return (rise, fall)
    lift = lift_of(fonts, style, rise, sup)
    return (rise + lift, fall - spare - lift)


def first_shifts(fonts, style, nucleus, is_glyph, sup, sub):
    """Rise and fall ahead of a look at the gap, each as a tuple (what rules it, how much), or None."""
    rise = None if sup is None else first_rise_of(fonts, style, nucleus, is_glyph, sup)
    fall = None if sub is None else first_fall_of(fonts, style, nucleus, is_glyph, sup, sub)
    return rise, fall


def first_rise_of(fonts, style, nucleus, is_glyph, sup):
    drop = fonts.number_of("supdrop", size_of(sup_style(style)))
    if style == 0:
        word = "sup1"
    else:
        word = "sup3" if style & 1 else "sup2"
    return first_greatest([
        ("nucleus", 0 if is_glyph else nucleus.height - drop),
        ("font", fonts.number_of(word, size_of(style))),
        ("sup", least_rise(fonts, style, sup)),
    ])


def first_fall_of(fonts, style, nucleus, is_glyph, sup, sub):
    drop = fonts.number_of("subdrop", size_of(sub_style(style)))
    word = "sub1" if sup is None else "sub2"
    bounds = [
        ("nucleus", 0 if is_glyph else nucleus.depth + drop),
        ("font", fonts.number_of(word, size_of(style))),
    ]
    if sup is None:
        bounds.append(("sub", least_fall(fonts, style, sub)))
    return first_greatest(bounds)


def first_greatest(bounds):
    found = bounds[0]
    for bound in bounds:
        if bound[1] > found[1]:
            found = bound
    return found


def least_rise(fonts, style, sup):
    """The rise that keeps the lower end of a sup high enough."""
    return sup.depth + fonts.number_of("xheight", size_of(style)) // 4


def least_fall(fonts, style, sub):
    """The fall that keeps the upper end of a sub alone low enough."""
    return sub.height - highest_end(fonts, style)


def highest_end(fonts, style):
    return 4 * fonts.number_of("xheight", size_of(style)) // 5


def spare_gap(fonts, style, rise, fall, sup, sub):
    """How much greater the gap between both scripts is than it must be; it lacks something below 0."""
    gap = (rise - sup.depth) - (sub.height - fall)
    return gap - 4 * fonts.number_of("rule", size_of(style))


def lift_of(fonts, style, rise, sup):
    """How far both scripts are moved up where the gap has lowered the sub."""
    return max(0, highest_end(fonts, style) - (rise - sup.depth))
