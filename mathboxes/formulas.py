"""Formulas: nested lists of items, and the paths by which items are found."""

from mathboxes.errors import InvalidFormula, InvalidPath
from mathboxes.kinds import is_path
from mathboxes.shapes import formulas_of, glyphs_told, is_item, may_have_middles

MOST_DEEP = 6
MOST_ITEMS = 200


def check_formula(formula):
    if checked_count(formula, (), 1, False) > MOST_ITEMS:
        raise InvalidFormula(())


def checked_count(formula, path, deep, middles):
    """How many items stand in a formula that stands so deep; raise if something in it is wrong."""
    if not isinstance(formula, list) or deep > MOST_DEEP:
        raise InvalidFormula(path)
    many = len(formula)
    for at, item in enumerate(formula):
        place = (*path, at)
        if not is_item(item) or (item[0] == "middle" and not middles):
            raise InvalidFormula(place)
        for way, inner in formulas_of(item):
            many += checked_count(inner, (*place, *way), deep + 1, may_have_middles(item, way))
    return many


def walked(formula, path=(), deep=1):
    """All items of a right formula, in order, as tuples (path, item, how deep its formula stands)."""
    found = []
    for at, item in enumerate(formula):
        place = (*path, at)
        found.append((place, item, deep))
        for way, inner in formulas_of(item):
            found.extend(walked(inner, (*place, *way), deep + 1))
    return found


def paths(formula):
    check_formula(formula)
    return [entry[0] for entry in walked(formula)]


def count(formula):
    check_formula(formula)
    return len(walked(formula))


def depth_of(formula):
    """How deep formulas with items stand in a formula, which itself stands one deep."""
    check_formula(formula)
    return max([1] + [entry[2] for entry in walked(formula)])


def item_at(formula, path):
    check_formula(formula)
    check_path(formula, path)
    item = formula
    for step in path:
        item = item[step]
    return copied(item)


def check_path(formula, path):
    # The kind comes first: in a comparison a bool would pass for an integer.
    if not is_path(path) or path not in [entry[0] for entry in walked(formula)]:
        raise InvalidPath(path)


def replaced(formula, path, item):
    """A new formula with another item at a path."""
    check_formula(formula)
    check_path(formula, path)
    other = with_item(formula, path, item)
    check_formula(other)
    return copied(other)


def with_item(value, path, item):
    """A list or tuple with an item at a path; what does not lie on the path is not copied."""
    if len(path) == 0:
        return item
    parts = list(value)
    parts[path[0]] = with_item(parts[path[0]], path[1:], item)
    return parts if isinstance(value, list) else tuple(parts)


def copied(value):
    """The same lists and tuples, all lists in them being new."""
    if isinstance(value, list):
        return [copied(part) for part in value]
    if isinstance(value, tuple):
        return tuple([copied(part) for part in value])
    return value


def symbols(formula):
    """All glyphs that items tell, as tuples (path, family, name)."""
    check_formula(formula)
    return [
        (path, family, name)
        for path, item, _ in walked(formula)
        for family, name in glyphs_told(item)
    ]
