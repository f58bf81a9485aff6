"""Delimiters that grow, and roots, whose sign is one of them."""

from mathboxes.boxes import check_box
from mathboxes.checks import check_amount, check_delimiter, check_fonts, check_signed, check_size, check_style
from mathboxes.measures import half, size_of
from mathboxes.parts import Part, Stack, boxed, lifted, side_by_side

MOST_REPEATS = 60


def candidates(fonts, size, delimiter):
    """The glyphs that a delimiter can be, as tuples (family, size, name)."""
    check_delimiter_at(fonts, size, delimiter)
    return [
        (family, face_size, name)
        for family, face_size, first in faces_of(size, delimiter)
        for name, _ in chain_if_any(fonts, family, face_size, first)
    ]


def chosen(fonts, size, delimiter, least):
    """The glyph that a delimiter becomes for a least total, with its repeats if it extends."""
    check_delimiter_at(fonts, size, delimiter)
    check_amount(least, "least")
    return chosen_of(fonts, size, delimiter, least)


def grown(fonts, size, delimiter, least):
    """The box of a delimiter for a least total, with its middle at the axis."""
    check_delimiter_at(fonts, size, delimiter)
    check_amount(least, "least")
    return boxed(grown_part(fonts, size, delimiter, least, ()))


def totals(fonts, size, delimiter):
    """The totals of a delimiter for all least totals, as tuples (the first one of these, total)."""
    check_delimiter_at(fonts, size, delimiter)
    found = []
    least = 0
    for total in totals_tried(fonts, size, delimiter):
        if total >= least:
            found.append((least, total))
            least = total + 1
    if not found:
        return [(0, 0)]
    # Here none that is tried is great enough any more.
    beyond = total_chosen(fonts, size, delimiter, least)
    if beyond != found[-1][1]:
        found.append((least, beyond))
    return found


def fence_least(fonts, size, height, depth):
    """The least total of the delimiters of a fence around such a greatest height and depth."""
    check_fonts(fonts)
    check_size(size)
    check_signed(height, "height")
    check_signed(depth, "depth")
    return fence_least_of(fonts, size, height, depth)


def root(fonts, style, delimiter, inner):
    """The box of a root with its sign around a box."""
    check_fonts(fonts)
    check_style(style)
    check_delimiter(delimiter)
    check_box(inner)
    return boxed(root_part(fonts, style, delimiter, inner, ()))


def check_delimiter_at(fonts, size, delimiter):
    check_fonts(fonts)
    check_size(size)
    check_delimiter(delimiter)


def faces_of(size, delimiter):
    """The faces in which the glyphs of a delimiter begin, as tuples (family, size, name), in order."""
    if delimiter is None:
        return []
    return [
        (family, face_size, name)
        for family, name in (delimiter[:2], delimiter[2:])
        for face_size in range(size, -1, -1)
    ]


def chain_if_any(fonts, family, size, name):
    """A glyph and its next ones, as tuples (name, glyph); none if the glyph lacks."""
    found = []
    glyph = fonts.glyph_if_any(family, size, name)
    while glyph is not None:
        found.append((name, glyph))
        name = glyph[4]
        glyph = None if name is None else fonts.glyph_if_any(family, size, name)
    return found


def total_of(glyph):
    return glyph[1] + glyph[2]


def chosen_of(fonts, size, delimiter, least):
    """As chosen, without its checks: a total that is reckoned may be below 0, or too great for them."""
    best = None
    most = -1
    # Most often one of the first candidates is taken, so the others are not even listed.
    for family, face_size, name in faces_of(size, delimiter):
        glyph = fonts.glyph_if_any(family, face_size, name)
        while glyph is not None:
            if glyph[5] is not None:
                fixed, each = parts_totals(fonts, family, face_size, glyph[5])
                return (family, face_size, name, fonts.repeats(each, least - fixed, MOST_REPEATS))
            total = total_of(glyph)
            if fonts.reaches(total, least):
                return (family, face_size, name, None)
            if total > most:
                best = (family, face_size, name, None)
                most = total
            name = glyph[4]
            glyph = None if name is None else fonts.glyph_if_any(family, face_size, name)
    return best


def parts_totals(fonts, family, size, parts):
    """The total without any repeat, and how much each repeat adds to it."""
    fixed = sum([total_of(fonts.glyph_if_any(family, size, name)) for name in parts[:3] if name is not None])
    each = total_of(fonts.glyph_if_any(family, size, parts[3]))
    return fixed, each if parts[1] is None else 2 * each


def totals_tried(fonts, size, delimiter):
    """All totals that are tried, one after another, until one is great enough."""
    found = []
    for family, face_size, first in faces_of(size, delimiter):
        for _, glyph in chain_if_any(fonts, family, face_size, first):
            if glyph[5] is not None:
                fixed, each = parts_totals(fonts, family, face_size, glyph[5])
                # What extends is taken in any case, so nothing is tried behind it.
                return found + [fixed + many * each for many in range(MOST_REPEATS + 1)]
            found.append(total_of(glyph))
    return found


def total_chosen(fonts, size, delimiter, least):
    """The total of what is chosen, if there are candidates."""
    family, face_size, name, many = chosen_of(fonts, size, delimiter, least)
    glyph = fonts.glyph_if_any(family, face_size, name)
    if many is None:
        return total_of(glyph)
    fixed, each = parts_totals(fonts, family, face_size, glyph[5])
    return fixed + many * each


def grown_part(fonts, size, delimiter, least, path):
    """As grown, without its checks, with marks of a path."""
    choice = chosen_of(fonts, size, delimiter, least)
    part = standing_part(fonts, choice, path)
    if choice is None:
        return part
    return lifted(part, fonts.number_of("axis", size) - half(part.height - part.depth))


def standing_part(fonts, choice, path):
    """The box of what is chosen, ahead of its moving to the axis."""
    if choice is None:
        return Part(fonts.setting_of("empty"), 0, 0, [])
    family, size, name, many = choice
    width, height, depth, slant, _, parts = fonts.glyph_if_any(family, size, name)
    if many is not None:
        return stacked_part(fonts, family, size, parts, many, path)
    return Part(width + slant, height, depth, [(0, 0, ("glyph", path, family, size, name))])


def stacked_part(fonts, family, size, parts, many, path):
    """The box of pieces that stand on one another."""
    top, middle, bottom, rep = parts
    pieces = []
    # If there is no middle, nothing comes behind the first repeats either.
    for name, times in ((bottom, 1), (rep, many), (middle, 1), (rep, 0 if middle is None else many), (top, 1)):
        if name is not None and times > 0:
            pieces.append((name, fonts.glyph_if_any(family, size, name), times))
    total = sum([times * total_of(piece) for _, piece, times in pieces])
    height = pieces[-1][1][1] if pieces else 0
    width, _, _, slant, _, _ = fonts.glyph_if_any(family, size, rep)
    stack = Stack(path, family, size, pieces, height - total)
    return Part(width + slant, height, total - height, [(0, 0, stack)])


def fence_least_of(fonts, size, height, depth):
    """As fence_least, without its checks."""
    axis = fonts.number_of("axis", size)
    reach = fonts.greatest([height - axis, depth + axis])
    return fonts.greatest([reach // 500 * fonts.setting_of("factor"), 2 * reach - fonts.setting_of("short")])


def root_part(fonts, style, delimiter, inner, path):
    """As root, without its checks, with marks of a path."""
    size = size_of(style)
    rule = fonts.number_of("rule", size)
    clear = rule + (fonts.number_of("xheight", size) // 4 if style <= 1 else rule // 4)
    inside = inner.height + inner.depth
    sign = standing_part(fonts, chosen_of(fonts, size, delimiter, inside + clear + rule), path)
    # A sign that is deeper than what it is to enclose stands in the middle of it.
    clear += fonts.greatest([0, half(sign.depth - (inside + clear))])
    thickness = sign.height
    lower = inner.height + clear
    marks = [(0, 0, inner)]
    if thickness > 0:
        marks.append((0, lower, ("rule", path, inner.width, thickness)))
    covered = Part(inner.width, lower + 2 * thickness, inner.depth, marks)
    return side_by_side(fonts, [lifted(sign, lower), covered])
