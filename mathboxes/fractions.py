"""Fractions: how far numerator and denominator are moved, and the boxes that have them."""

from mathboxes.boxes import check_box
from mathboxes.checks import check_fonts, check_style
from mathboxes.delimiters import grown_part
from mathboxes.errors import InvalidArgument
from mathboxes.kinds import is_delimiter, is_thickness
from mathboxes.measures import half, size_of
from mathboxes.parts import Part, boxed, side_by_side


def fraction(fonts, style, num, den, *, thickness=None, left=None, right=None):
    """The box of a fraction of two boxes, between its delimiters."""
    check_fraction(fonts, style, num, den, thickness)
    if not is_delimiter(left):
        raise InvalidArgument("left")
    if not is_delimiter(right):
        raise InvalidArgument("right")
    return boxed(fraction_part(fonts, style, num, den, (thickness, left, right), ()))


def fraction_shifts(fonts, style, num, den, *, thickness=None):
    """How far the numerator is raised and the denominator is lowered."""
    check_fraction(fonts, style, num, den, thickness)
    return fraction_shifts_of(fonts, style, num, den, thickness_of(fonts, style, thickness))


def check_fraction(fonts, style, num, den, thickness):
    check_fonts(fonts)
    check_style(style)
    check_box(num)
    check_box(den)
    if not is_thickness(thickness):
        raise InvalidArgument("thickness")


def thickness_of(fonts, style, told):
    return fonts.number_of("rule", size_of(style)) if told is None else told


def fraction_part(fonts, style, num, den, told, path):
    """As fraction, without its checks, with marks of a path; told are the thickness and both delimiters."""
    thickness, left, right = told
    size = size_of(style)
    thick = thickness_of(fonts, style, thickness)
    up, down = fraction_shifts_of(fonts, style, num, den, thick)
    width = fonts.greatest([num.width, den.width])
    marks = [((width - num.width) // 2, up, num), ((width - den.width) // 2, -down, den)]
    if thick > 0:
        lower = fonts.number_of("axis", size) + half(thick) - thick
        marks.append((0, lower, ("rule", path, width, thick)))
    between = Part(width, up + num.height, down + den.depth, marks)
    least = fonts.number_of("delim1" if style <= 1 else "delim2", size)
    return side_by_side(fonts, [
        grown_part(fonts, size, left, least, path), between, grown_part(fonts, size, right, least, path),
    ])


def fraction_shifts_of(fonts, style, num, den, thick):
    """As fraction_shifts, without its checks, for a thickness that is known."""
    size = size_of(style)
    is_great = style <= 1
    down = fonts.number_of("down1" if is_great else "down2", size)
    # It is asked this way, as a thickness may also grow from 0 on.
    if fonts.reaches(thick, 1):
        up = fonts.number_of("up1" if is_great else "up2", size)
        least = 3 * thick if is_great else thick
        upper = fonts.number_of("axis", size) + half(thick)
        up = fonts.greatest([up, least + upper + num.depth])
        down = fonts.greatest([down, least + den.height - (upper - thick)])
        return (up, down)
    up = fonts.number_of("up1" if is_great else "up3", size)
    gap = (up - num.depth) - (den.height - down)
    lacking = (7 if is_great else 3) * fonts.number_of("rule", size) - gap
    more = fonts.greatest([0, half(lacking)])
    return (up + more, down + more)
