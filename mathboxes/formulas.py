"""Formulas: nested lists of items, and the paths by which items are found."""

from mathboxes.errors import InvalidFormula, InvalidPath
from mathboxes.kinds import is_path
from mathboxes.shapes import PLACES, cells_of, formulas_of, glyphs_told, is_item, may_have_middles

MOST_DEEP = 6
MOST_ITEMS = 200


def check_formula(formula):
    checked_count(formula)


def checked_count(formula):
    """The number of all items of a formula; raise if it is none."""
    many = count_if_right(formula)
    if many is None:
        wrong = first_wrong(formula, (), 1, False)
        # If no part is wrong, there are too many items.
        raise InvalidFormula(() if wrong is None else wrong)
    return many


def count_if_right(formula):
    """The number of all items of a formula, or None if it is none.

    It goes level by level, which takes less time than to look in order for what is wrong first.
    """
    many = 0
    level = [(formula, False)]
    for _ in range(MOST_DEEP):
        found = []
        for inner, middles in level:
            if not isinstance(inner, list):
                return None
            many += len(inner)
            if many > MOST_ITEMS or not put_inner(found, inner, middles):
                return None
        if not found:
            return many
        level = found
    return None


def put_inner(found, formula, middles):
    """Whether the items of a formula are right, without regard to their formulas.

    These are put behind those that were found, as tuples (formula, whether it may have middles).
    """
    for item in formula:
        if not is_item(item):
            return False
        word = item[0]
        formulas, scripts = PLACES[word]
        for at in formulas:
            found.append((item[at], word == "fence"))
        for at in scripts:
            if item[at] is not None:
                found.append((item[at], False))
        if word == "table":
            found.extend([(cell, False) for _, cell in cells_of(item[2], 2)])
        elif word == "middle" and not middles:
            return False
    return True


def first_wrong(formula, path, deep, middles):
    """The first path at which a formula that stands so deep is wrong, or None."""
    if not isinstance(formula, list) or deep > MOST_DEEP:
        return path
    for at, item in enumerate(formula):
        place = (*path, at)
        if not is_item(item) or (item[0] == "middle" and not middles):
            return place
        for way, inner in formulas_of(item):
            wrong = first_wrong(inner, (*place, *way), deep + 1, may_have_middles(item, way))
            if wrong is not None:
                return wrong
    return None


def walked(formula):
    """All items of a right formula, in order, as tuples (path, item, how deep its formula stands)."""
    found = []
    walk(found, formula, (), 1)
    return found


def walk(found, formula, path, deep):
    for at, item in enumerate(formula):
        place = (*path, at)
        found.append((place, item, deep))
        for way, inner in formulas_of(item):
            walk(found, inner, (*place, *way), deep + 1)


def paths(formula):
    check_formula(formula)
    return [path for path, _, _ in walked(formula)]


def count(formula):
    return checked_count(formula)


def depth_of(formula):
    """How deep formulas with items stand in a formula, which itself stands one deep."""
    check_formula(formula)
    return max([1] + [deep for _, _, deep in walked(formula)])


def item_at(formula, path):
    check_formula(formula)
    return copied(item_there(formula, path))


def replaced(formula, path, item):
    """A new formula with another item at a path."""
    check_formula(formula)
    item_there(formula, path)
    other = with_item(formula, path, item)
    check_formula(other)
    return copied(other)


def item_there(formula, path):
    """The item of a right formula to which a path leads."""
    # The kind comes first: in a comparison a bool would pass for an integer.
    rest = path if is_path(path) else ()
    there = formula
    while len(rest) > 0 and rest[0] < len(there):
        item = there[rest[0]]
        if len(rest) == 1:
            return item
        there, rest = inner_there(item, rest[1:])
    raise InvalidPath(path)


def inner_there(item, path):
    """The formula of an item in which a path goes on, and the rest of the path within it."""
    for way, inner in formulas_of(item):
        if path[:len(way)] == way:
            return inner, path[len(way):]
    return [], ()


def with_item(value, path, item):
    """A list or tuple with an item at a path; what does not lie on the path is not copied."""
    if len(path) == 0:
        return item
    parts = list(value)
    parts[path[0]] = with_item(parts[path[0]], path[1:], item)
    return parts if isinstance(value, list) else tuple(parts)


def copied(value):
    """The same lists and tuples, all lists in them being new."""
    if isinstance(value, list):
        return [copied(part) for part in value]
    if isinstance(value, tuple):
        for part in value:
            if isinstance(part, list):
                return tuple([copied(inner) if isinstance(inner, list) else inner for inner in value])
    # Nothing in it could be changed, so it serves as its own copy.
    return value


def symbols(formula):
    """All glyphs that items tell, as tuples (path, family, name)."""
    check_formula(formula)
    return [
        (path, family, name)
        for path, item, _ in walked(formula)
        for family, name in glyphs_told(item)
    ]
