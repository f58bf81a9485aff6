"""Bars, boxes on the axis, and accents."""

from mathboxes.boxes import check_box_argument
from mathboxes.checks import check_fonts, check_signed, check_style
from mathboxes.measures import SIZES_OF_STYLES, half, size_of
from mathboxes.parts import Part, boxed, lifted


def overlined(fonts, style, inner):
    """A box with a bar above it."""
    check_bar(fonts, style, inner)
    return boxed(overlined_part(fonts, style, inner, ()))


def underlined(fonts, style, inner):
    """A box with a bar below it."""
    check_bar(fonts, style, inner)
    return boxed(underlined_part(fonts, style, inner, ()))


def centered(fonts, style, inner):
    """A box with its middle on the axis."""
    check_bar(fonts, style, inner)
    return boxed(centered_part(fonts, style, inner))


def accent_steps(fonts, family, size, name):
    """The accents of a chain for all widths, as tuples (the first width, name)."""
    check_fonts(fonts)
    found = []
    width = 0
    for at, taken in enumerate(fonts.chain(family, size, name)):
        if at > 0:
            width = max(width, fonts.glyph_if_any(family, size, taken)[0])
        # From the same width on, a later one of the chain is taken instead.
        if found and found[-1][0] == width:
            found[-1] = (width, taken)
        else:
            found.append((width, taken))
    return found


def accented(fonts, style, family, name, inner, old_inner=None, skew=0):
    """A box with an accent; another box may tell where the accent stands."""
    check_fonts(fonts)
    check_style(style)
    glyph = fonts.glyph(family, size_of(style), name)
    check_box_argument(inner, "inner")
    if old_inner is not None:
        check_box_argument(old_inner, "old_inner")
    check_signed(skew, "skew")
    old = inner if old_inner is None else old_inner
    return boxed(accented_part(fonts, style, (family, name, glyph), inner, old, skew, ()))


def check_bar(fonts, style, inner):
    check_fonts(fonts)
    check_style(style)
    check_box_argument(inner, "inner")


def overlined_part(fonts, style, inner, path):
    """As overlined, without its checks, with marks of a path."""
    thickness = fonts.number_of("rule", size_of(style))
    bar = (0, inner.height + 3 * thickness, ("rule", path, inner.width, thickness))
    return Part(inner.width, inner.height + 5 * thickness, inner.depth, [(0, 0, inner), bar])


def underlined_part(fonts, style, inner, path):
    """As underlined, without its checks, with marks of a path."""
    thickness = fonts.number_of("rule", size_of(style))
    bar = (0, -inner.depth - 4 * thickness, ("rule", path, inner.width, thickness))
    return Part(inner.width, inner.height, inner.depth + 5 * thickness, [(0, 0, inner), bar])


def centered_part(fonts, style, inner):
    """As centered, without its checks."""
    height = fonts.number_of("axis", size_of(style)) + half(inner.height + inner.depth)
    return lifted(inner, height - inner.height)


def accented_part(fonts, style, told, inner, old, skew, path):
    """As accented, without its checks, with a mark of a path; told are the family, the name and the glyph."""
    size = SIZES_OF_STYLES[style]
    family, name, glyph = told
    # As long as it is not too wide, the next one of the chain is taken.
    while glyph[4] is not None:
        later = fonts.glyph_if_any(family, size, glyph[4])
        if not fonts.reaches(old.width, later[0]):
            break
        name, glyph = glyph[4], later
    width, height, depth, slant, _, _ = glyph
    # How far the lower end of the accent stands above the baseline: what OLD has above xheight.
    baseline = fonts.greatest([0, old.height - fonts.number_of("xheight", size)]) + depth
    left = skew + half(old.width - (width + slant))
    marks = [(0, 0, inner), (left, baseline, ("glyph", path, family, size, name))]
    return Part(inner.width, fonts.greatest([inner.height, baseline + height]), inner.depth, marks)
