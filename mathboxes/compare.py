"""What becomes of the marks of a formula from one style to another, and which styles are alike."""

from mathboxes.boxes import ink_of
from mathboxes.checks import check_fonts
from mathboxes.errors import InvalidArgument
from mathboxes.formulas import check_formula, walked
from mathboxes.kinds import STYLES, is_style
from mathboxes.layout import box_of, formula_part, layout
from mathboxes.parts import boxed
from mathboxes.watches import KeepingFonts


def marks_of(fonts, formula, style):
    """The marks of each path that has some, as a dict."""
    return marks_by_path(layout(fonts, formula, style))


def what_moves(fonts, formula, one, other):
    """What becomes of the marks from one style to another, as tuples (path, deed)."""
    check_fonts(fonts)
    check_formula(formula)
    if not is_style(one):
        raise InvalidArgument("one")
    if not is_style(other):
        raise InvalidArgument("other")
    before = marks_by_path(box_of(fonts, formula, one))
    after = marks_by_path(box_of(fonts, formula, other))
    return deeds([path for path, _, _ in walked(formula)], before, after)


def same_ink_styles(fonts, one, other):
    """The styles in which two formulas have the same ink and sizes."""
    check_fonts(fonts)
    check_formula(one)
    check_formula(other)
    one_fonts, other_fonts = KeepingFonts(fonts), KeepingFonts(fonts)
    found = []
    for style in range(STYLES):
        first = formula_part(one_fonts, one, style, ())
        second = formula_part(other_fonts, other, style, ())
        if are_alike(first, second):
            found.append(style)
    return found


def alike_styles(fonts, formula):
    """All styles, those together in which a formula has the same ink and sizes."""
    check_fonts(fonts)
    check_formula(formula)
    parts = parts_by_style(fonts, formula)
    groups = []
    for style, part in enumerate(parts):
        # What is alike is alike to all of a group, so its first one tells it.
        alike = [group for group in groups if are_alike(parts[group[0]], part)]
        if alike:
            alike[0].append(style)
        else:
            groups.append([style])
    return groups


def parts_by_style(fonts, formula):
    keeping = KeepingFonts(fonts)
    return [formula_part(keeping, formula, style, ()) for style in range(STYLES)]


def marks_by_path(box):
    found = {}
    for placed in box.marks:
        found.setdefault(placed[2][1], []).append(placed)
    return found


def deeds(paths, before, after):
    """What becomes of the marks of paths, as tuples (path, deed), of those that have some before or after."""
    return [
        (path, deed_of(before.get(path, []), after.get(path, [])))
        for path in paths if path in before or path in after
    ]


def deed_of(before, after):
    """What becomes of some marks."""
    if before == after:
        return ("stays",)
    if len(before) == 0 or len(before) != len(after):
        return ("changes",)
    dx = after[0][0] - before[0][0]
    dy = after[0][1] - before[0][1]
    if after == [(x + dx, y + dy, mark) for x, y, mark in before]:
        return ("moves", dx, dy)
    return ("changes",)


def sizes_of(part):
    return (part.width, part.height, part.depth)


def are_alike(one, other):
    """Whether two parts have the same ink and sizes; marks are only put in their places if the sizes are the same."""
    return sizes_of(one) == sizes_of(other) and ink_of(boxed(one)) == ink_of(boxed(other))
