"""Parts: boxes whose marks are not in their places yet.

A formula is laid out from its inner parts to the outer ones, and each of these moves those within it. So a part only
tells where its parts stand in it; the marks are put in their places once, when the outermost part becomes a box.
"""

from mathboxes.boxes import Box


class Part:
    """Sizes as those of a box, and marks as tuples (x, y, mark), in which a part or a box may stand for a mark."""

    def __init__(self, width, height, depth, marks):
        self.width = width
        self.height = height
        self.depth = depth
        self.marks = marks


class Stack:
    """Glyphs on one another, in the place of a mark: as tuples (name, glyph, how often), from below.

    They may be many, so their marks are only made when these are put in their places.
    """

    def __init__(self, path, family, size, pieces, lower):
        self.path = path
        self.family = family
        self.size = size
        self.pieces = pieces
        self.lower = lower


def boxed(part):
    """The box of a part, with all marks in their places."""
    marks = []
    for x, y, mark in part.marks:
        # Boxes that are handed to the package are most often here, and have no parts.
        if isinstance(mark, Box):
            if x == 0 and y == 0:
                marks.extend(mark.marks)
            elif mark.marks:
                marks.extend([(x + dx, y + dy, inner) for dx, dy, inner in mark.marks])
        elif isinstance(mark, tuple):
            marks.append((x, y, mark))
        else:
            put_marks(marks, [(x, y, mark)], 0, 0)
    return Box(part.width, part.height, part.depth, marks)


def put_marks(found, marks, x, y):
    for dx, dy, mark in marks:
        if isinstance(mark, tuple):
            found.append((x + dx, y + dy, mark))
        elif isinstance(mark, Stack):
            put_stack(found, mark, x + dx, y + dy)
        else:
            put_marks(found, mark.marks, x + dx, y + dy)


def put_stack(found, stack, x, y):
    lower = y + stack.lower
    for name, glyph, many in stack.pieces:
        mark = ("glyph", stack.path, stack.family, stack.size, name)
        for _ in range(many):
            found.append((x, lower + glyph[2], mark))
            lower += glyph[1] + glyph[2]


def lifted(part, dy):
    """A part or a box that is moved up."""
    return Part(part.width, part.height + dy, part.depth - dy, [(0, dy, part)])


def side_by_side(fonts, parts):
    """Parts or boxes side by side, on one baseline."""
    width = 0
    heights, depths = [0], [0]
    marks = []
    for part in parts:
        marks.append((width, 0, part))
        heights.append(part.height)
        depths.append(part.depth)
        width += part.width
    return Part(width, fonts.greatest(heights), fonts.greatest(depths), marks)
