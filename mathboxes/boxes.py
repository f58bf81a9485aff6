"""Boxes: sizes with marks in their places, and how they are put together."""

from mathboxes.checks import check_fonts, check_signed
from mathboxes.errors import InvalidArgument, InvalidBox, NoGlyph
from mathboxes.kinds import is_family, is_name, is_path, is_row, is_sequence, is_signed, is_size, is_word


class Box:
    """A width, a height above the baseline, a depth below it, and marks."""

    def __init__(self, width, height, depth, marks=()):
        self.width = width
        self.height = height
        self.depth = depth
        # Nothing is checked here, so what has no items stays for check_box to refuse.
        self.marks = list(marks) if is_sequence(marks) else marks

    def __eq__(self, other):
        return (
            isinstance(other, Box) and self.width == other.width and self.height == other.height
            and self.depth == other.depth and self.marks == other.marks
        )


def check_box(box):
    part = wrong_part(box)
    if part is not None:
        raise InvalidBox(part)


def check_box_argument(box, name):
    """As check_box, for functions that tell only which parameter is wrong."""
    if wrong_part(box) is not None:
        raise InvalidArgument(name)


def wrong_part(box):
    """The first part by which a value is no box, or None if it is one."""
    if not isinstance(box, Box):
        return "box"
    if not is_signed(box.width):
        return "width"
    if not is_signed(box.height):
        return "height"
    if not is_signed(box.depth):
        return "depth"
    if not isinstance(box.marks, list) or not all([is_placed_mark(placed) for placed in box.marks]):
        return "marks"
    return None


def is_placed_mark(value):
    return is_row(value, 3) and is_signed(value[0]) and is_signed(value[1]) and is_mark(value[2])


def is_mark(value):
    return is_glyph_mark(value) or is_rule_mark(value)


def is_glyph_mark(value):
    if not (is_row(value, 5) and is_word(value[0], ("glyph",)) and is_path(value[1])):
        return False
    return is_family(value[2]) and is_size(value[3]) and is_name(value[4])


def is_rule_mark(value):
    if not (is_row(value, 4) and is_word(value[0], ("rule",)) and is_path(value[1])):
        return False
    return is_signed(value[2]) and is_signed(value[3])


def beside(boxes):
    """Boxes side by side, on one baseline."""
    if not is_sequence(boxes):
        raise InvalidArgument("boxes")
    for box in boxes:
        check_box(box)
    width = 0
    marks = []
    for box in boxes:
        marks.extend(marks_moved(box, width, 0))
        width = width + box.width
    height = max([0] + [box.height for box in boxes])
    depth = max([0] + [box.depth for box in boxes])
    return Box(width, height, depth, marks)


def marks_moved(box, dx, dy):
    return [(x + dx, y + dy, mark) for x, y, mark in box.marks]


def moved(box, dx, dy):
    """A box moved to the right and up."""
    check_box(box)
    check_signed(dx, "dx")
    check_signed(dy, "dy")
    return Box(box.width + dx, box.height + dy, box.depth - dy, marks_moved(box, dx, dy))


def together(width, height, depth, placed):
    """A box of these sizes with the marks of boxes at their places."""
    check_signed(width, "width")
    check_signed(height, "height")
    check_signed(depth, "depth")
    check_placed(placed)
    marks = []
    for box, dx, dy in placed:
        marks.extend(marks_moved(box, dx, dy))
    return Box(width, height, depth, marks)


def check_placed(placed):
    if not is_sequence(placed) or not all([is_row(entry, 3) for entry in placed]):
        raise InvalidArgument("placed")
    for box, dx, dy in placed:
        check_box(box)
        check_signed(dx, "placed")
        check_signed(dy, "placed")


def widened(box, width):
    """A box of another width, with its marks in the middle."""
    check_box(box)
    check_signed(width, "width")
    return Box(width, box.height, box.depth, marks_moved(box, (width - box.width) // 2, 0))


def ink(box):
    """What is seen of a box: its marks, sorted, without their paths."""
    check_box(box)
    return ink_of(box)


def ink_of(box):
    """As ink, without its checks."""
    return sorted([(x, y, mark[0]) + mark[2:] for x, y, mark in box.marks])


def same_ink(one, other):
    return first_unlike(one, other) is None


def first_unlike(one, other):
    """The first size, or else the least item of the ink, in which two boxes differ."""
    check_box(one)
    check_box(other)
    if one.width != other.width:
        return ("width",)
    if one.height != other.height:
        return ("height",)
    if one.depth != other.depth:
        return ("depth",)
    return unlike_ink(ink_of(one), ink_of(other))


def unlike_ink(one, other):
    # Both are sorted: at the first place where they differ, the lesser item is the one
    # that the other list does not have so often; what is missing counts as greater than all.
    for at, item in enumerate(one):
        if at == len(other) or item < other[at]:
            return ("ink", 0, item)
        if other[at] < item:
            return ("ink", 1, other[at])
    if len(one) < len(other):
        return ("ink", 1, other[len(one)])
    return None


def extent(fonts, box):
    """How far the marks of a box reach: left, right, top and bottom."""
    check_fonts(fonts)
    check_box(box)
    if not box.marks:
        return None
    reaches = [reach(fonts, x, y, mark) for x, y, mark in box.marks]
    across = [x for xs, _ in reaches for x in xs]
    upwards = [y for _, ys in reaches for y in ys]
    return (min(across), max(across), max(upwards), min(upwards))


def reach(fonts, x, y, mark):
    """Both ends of a mark across, and both upwards."""
    if mark[0] == "rule":
        return (x, x + mark[2]), (y, y + mark[3])
    glyph = fonts.glyph_if_any(mark[2], mark[3], mark[4])
    if glyph is None:
        raise NoGlyph(mark[2], mark[4])
    return (x, x + glyph[0]), (y - glyph[2], y + glyph[1])
