"""The best breaks of lines for whole rows of widths at once.

A course tells for a row of widths, (first, last, line), how good one list of breaks is for a width w: its line has the
numbers of the excess, e0 + e1 * w, those of the badness, b0 + b1 * w + b2 * w * w, and the breaks, a tuple:
(e0, e1, b0, b1, b2, breaks). Courses stand in lists, ascending, one right behind another.
"""

from math import isqrt


def line_alone(need, first, last):
    """The courses of a last line: it has no breaks, and no badness."""
    found = []
    if first < need:
        found.append((first, min(last, need - 1), (need, -1, 0, 0, 0, ())))
    if last >= need:
        found.append((max(first, need), last, (0, 0, 0, 0, 0, ())))
    return found


def with_line_ahead(courses, need, cost, place):
    """Courses with one more line ahead of theirs, and behind it a break at a place."""
    found = []
    for first, last, (e0, e1, b0, b1, b2, breaks) in courses:
        longer = (place, *breaks)
        if first < need:
            found.append((first, min(last, need - 1), (e0 + need, e1 - 1, b0 + cost, b1, b2, longer)))
        if last >= need:
            square = (b0 + cost + need * need, b1 - 2 * need, b2 + 1)
            found.append((max(first, need), last, (e0, e1, *square, longer)))
    return found


def least_of(courses, others):
    """For each width the better one of two courses."""
    found = []
    at = 0
    for first, last, line in courses:
        while True:
            begin, end, other = others[at]
            put_better(found, max(first, begin), min(last, end), line, other)
            if end > last:
                break
            at += 1
            if end == last:
                break
    return found


def put_better(found, first, last, line, other):
    """Put the better one of two lines behind the courses that were found, for each of some widths."""
    for low, high, less in signs(other[0] - line[0], other[1] - line[1], 0, first, last):
        if less != 0:
            put_course(found, low, high, line if less > 0 else other)
            continue
        for begin, end, better in signs(other[2] - line[2], other[3] - line[3], other[4] - line[4], low, high):
            if better == 0:
                better = 1 if (len(line[5]), line[5]) <= (len(other[5]), other[5]) else -1
            put_course(found, begin, end, line if better > 0 else other)


def put_course(found, first, last, line):
    if found and found[-1][2] == line:
        found[-1] = (found[-1][0], last, line)
    else:
        found.append((first, last, line))


def signs(c0, c1, c2, first, last):
    """The signs of c0 + c1 * w + c2 * w * w for the widths w of a row, as tuples (first, last, sign)."""
    starts = [first]
    for root in roots_near(c0, c1, c2):
        # These are rounded, so that the sign may be another one, or 0, at the next two.
        for start in (root, root + 1, root + 2):
            if starts[-1] < start <= last:
                starts.append(start)
    found = []
    for start, later in zip(starts, starts[1:] + [last + 1]):
        value = c0 + (c1 + c2 * start) * start
        found.append((start, later - 1, 0 if value == 0 else (1 if value > 0 else -1)))
    return found


def roots_near(c0, c1, c2):
    """Where c0 + c1 * w + c2 * w * w is 0, ascending, rounded down or one less."""
    if c2 != 0:
        square = c1 * c1 - 4 * c2 * c0
        if square < 0:
            return []
        return sorted([(-c1 - isqrt(square)) // (2 * c2), (-c1 + isqrt(square)) // (2 * c2)])
    return [] if c1 == 0 else [-c0 // c1]
