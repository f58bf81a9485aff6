"""Boxes: sizes with marks in their places, and how they are put together."""

from mathboxes.checks import check_fonts, check_signed
from mathboxes.errors import InvalidArgument, InvalidBox, NoGlyph
from mathboxes.kinds import LEAST, LIMIT, MOST_FAMILIES, MOST_LETTERS, SIZES
from mathboxes.kinds import is_integer, is_row, is_sequence, is_signed


class Box:
    """A width, a height above the baseline, a depth below it, and marks."""

    def __init__(self, width, height, depth, marks=()):
        self.width = width
        self.height = height
        self.depth = depth
        # Nothing is checked here, so what has no items stays for check_box to refuse.
        self.marks = list(marks) if isinstance(marks, (list, tuple)) else marks

    def __eq__(self, other):
        return (
            isinstance(other, Box) and self.width == other.width and self.height == other.height
            and self.depth == other.depth and self.marks == other.marks
        )


def check_box(box):
    part = wrong_part(box)
    if part is not None:
        raise InvalidBox(part)


def check_box_argument(box, name):
    """As check_box, for functions that tell only which parameter is wrong."""
    if wrong_part(box) is not None:
        raise InvalidArgument(name)


def wrong_part(box):
    """The first part by which a value is no box, or None if it is one."""
    if not isinstance(box, Box):
        return "box"
    width, height, depth, marks = box.width, box.height, box.depth, box.marks
    # Boxes are checked very often: what is plainly right is seen here, and is_signed tells only of the rest.
    if not (type(width) == int and LEAST <= width <= LIMIT or is_signed(width)):
        return "width"
    if not (type(height) == int and LEAST <= height <= LIMIT or is_signed(height)):
        return "height"
    if not (type(depth) == int and LEAST <= depth <= LIMIT or is_signed(depth)):
        return "depth"
    if not isinstance(marks, list) or (marks and not are_marks(marks)):
        return "marks"
    return None


def are_marks(marks):
    # A call takes longer than most of these tests, so they are all written out.
    for placed in marks:
        if not isinstance(placed, tuple) or len(placed) != 3:
            return False
        x, y, mark = placed
        if not (type(x) == int and LEAST <= x <= LIMIT or is_signed(x)):
            return False
        if not (type(y) == int and LEAST <= y <= LIMIT or is_signed(y)):
            return False
        if not isinstance(mark, tuple):
            return False
        if len(mark) == 4:
            word, path, width, height = mark
            if not isinstance(word, str) or word != "rule":
                return False
            if not (type(width) == int and LEAST <= width <= LIMIT or is_signed(width)):
                return False
            if not (type(height) == int and LEAST <= height <= LIMIT or is_signed(height)):
                return False
        elif len(mark) == 5:
            word, path, family, size, name = mark
            if not isinstance(word, str) or word != "glyph":
                return False
            if not (type(family) == int or is_integer(family)) or not 0 <= family < MOST_FAMILIES:
                return False
            if not (type(size) == int or is_integer(size)) or not 0 <= size < SIZES:
                return False
            if not (isinstance(name, str) and len(name) <= MOST_LETTERS):
                return False
            if not (name.isascii() and name.isalpha() and name.islower()):
                return False
        else:
            return False
        if not isinstance(path, tuple):
            return False
        for step in path:
            if not ((type(step) == int or is_integer(step)) and step >= 0):
                return False
    return True


def beside(boxes):
    """Boxes side by side, on one baseline."""
    if not is_sequence(boxes):
        raise InvalidArgument("boxes")
    for box in boxes:
        check_box(box)
    width = 0
    marks = []
    for box in boxes:
        marks.extend(marks_moved(box, width, 0))
        width = width + box.width
    height = max([0] + [box.height for box in boxes])
    depth = max([0] + [box.depth for box in boxes])
    return Box(width, height, depth, marks)


def marks_moved(box, dx, dy):
    return [(x + dx, y + dy, mark) for x, y, mark in box.marks]


def moved(box, dx, dy):
    """A box moved to the right and up."""
    check_box(box)
    check_signed(dx, "dx")
    check_signed(dy, "dy")
    return Box(box.width + dx, box.height + dy, box.depth - dy, marks_moved(box, dx, dy))


def together(width, height, depth, placed):
    """A box of these sizes with the marks of boxes at their places."""
    check_signed(width, "width")
    check_signed(height, "height")
    check_signed(depth, "depth")
    check_placed(placed)
    marks = []
    for box, dx, dy in placed:
        marks.extend(marks_moved(box, dx, dy))
    return Box(width, height, depth, marks)


def check_placed(placed):
    if not is_sequence(placed) or not all([is_row(entry, 3) for entry in placed]):
        raise InvalidArgument("placed")
    for box, dx, dy in placed:
        check_box(box)
        check_signed(dx, "placed")
        check_signed(dy, "placed")


def widened(box, width):
    """A box of another width, with its marks in the middle."""
    check_box(box)
    check_signed(width, "width")
    return Box(width, box.height, box.depth, marks_moved(box, (width - box.width) // 2, 0))


def ink(box):
    """What is seen of a box: its marks, sorted, without their paths."""
    check_box(box)
    return ink_of(box)


def ink_of(box):
    """As ink, without its checks."""
    return sorted([(x, y, mark[0]) + mark[2:] for x, y, mark in box.marks])


def same_ink(one, other):
    return first_unlike(one, other) is None


def first_unlike(one, other):
    """The first size, or else the least item of the ink, in which two boxes differ."""
    check_box(one)
    check_box(other)
    if one.width != other.width:
        return ("width",)
    if one.height != other.height:
        return ("height",)
    if one.depth != other.depth:
        return ("depth",)
    return unlike_ink(ink_of(one), ink_of(other))


def unlike_ink(one, other):
    # Both are sorted: at the first place where they differ, the lesser item is the one
    # that the other list does not have so often; what is missing counts as greater than all.
    for at, item in enumerate(one):
        if at == len(other) or item < other[at]:
            return ("ink", 0, item)
        if other[at] < item:
            return ("ink", 1, other[at])
    if len(one) < len(other):
        return ("ink", 1, other[len(one)])
    return None


def extent(fonts, box):
    """How far the marks of a box reach: left, right, top and bottom."""
    check_fonts(fonts)
    check_box(box)
    if not box.marks:
        return None
    reaches = [reach(fonts, x, y, mark) for x, y, mark in box.marks]
    across = [x for xs, _ in reaches for x in xs]
    upwards = [y for _, ys in reaches for y in ys]
    return (min(across), max(across), max(upwards), min(upwards))


def reach(fonts, x, y, mark):
    """Both ends of a mark across, and both upwards."""
    if mark[0] == "rule":
        return (x, x + mark[2]), (y, y + mark[3])
    glyph = fonts.glyph_if_any(mark[2], mark[3], mark[4])
    if glyph is None:
        raise NoGlyph(mark[2], mark[4])
    return (x, x + glyph[0]), (y - glyph[2], y + glyph[1])
