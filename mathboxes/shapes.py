"""The items of formulas: which tuples they are, and where formulas stand in them."""

from mathboxes.kinds import LEAST, LIMIT, MOST_FAMILIES, MOST_LETTERS, SYMBOL_CLASSES
from mathboxes.kinds import is_columns, is_delimiter, is_family, is_limits, is_list_class, is_name
from mathboxes.kinds import is_thickness, is_told_style, is_word, letter_count

MOST_ROWS = 20

# Where formulas stand in an item, and behind these its scripts, which are formulas or None.
# The cells of a table are told by cells_of.
PLACES = {
    "symbol": ((), (4, 5)),
    "list": ((2,), (3, 4)),
    "over": ((1,), (2, 3)),
    "under": ((1,), (2, 3)),
    "center": ((1,), (2, 3)),
    "root": ((2,), (3, 4)),
    "accent": ((3,), (4, 5)),
    "operator": ((2,), (3, 4)),
    "fence": ((2,), (4, 5)),
    "middle": ((), ()),
    "fraction": ((1, 2), ()),
    "table": ((), (3, 4)),
    "kern": ((), ()),
    "style": ((), ()),
    "choice": ((1, 2, 3, 4), ()),
}
DELIMITER_PLACES = {"root": (1,), "fence": (1, 3), "middle": (1,), "fraction": (4, 5)}

# Each of the next functions tells whether a tuple with its word ahead is an item, without regard to its formulas.


def is_symbol(item):
    # Most items are symbols, and a call takes longer than what it tests: so nothing is called here.
    if len(item) != 6:
        return False
    _, kind, family, name, _, _ = item
    return (
        isinstance(kind, str) and kind in SYMBOL_CLASSES
        and isinstance(family, int) and family is not True and family is not False and 0 <= family < MOST_FAMILIES
        and isinstance(name, str) and len(name) <= MOST_LETTERS
        and name.isascii() and name.isalpha() and name.islower()
    )


def is_list(item):
    return len(item) == 5 and is_list_class(item[1])


def is_bare(item):
    """Whether a tuple has room for nothing but a formula and scripts."""
    return len(item) == 4


def is_root(item):
    return len(item) == 5 and is_delimiter(item[1])


def is_accent(item):
    return len(item) == 6 and is_family(item[1]) and is_name(item[2])


def is_operator(item):
    return len(item) == 5 and is_limits(item[1])


def is_fence(item):
    return len(item) == 6 and is_delimiter(item[1]) and is_delimiter(item[3])


def is_middle(item):
    return len(item) == 2 and is_delimiter(item[1])


def is_fraction(item):
    return len(item) == 6 and is_thickness(item[3]) and is_delimiter(item[4]) and is_delimiter(item[5])


def is_table(item):
    return len(item) == 5 and is_columns(item[1]) and is_rows(item[2], letter_count(item[1]))


def is_kern(item):
    if len(item) != 3:
        return False
    _, number, unit = item
    return (
        isinstance(number, int) and number is not True and number is not False and LEAST <= number <= LIMIT
        and isinstance(unit, str) and unit in ("units", "mu")
    )


def is_style_item(item):
    return len(item) == 2 and is_told_style(item[1])


def is_choice(item):
    return len(item) == 5


CHECKS = {
    "symbol": is_symbol,
    "list": is_list,
    "over": is_bare,
    "under": is_bare,
    "center": is_bare,
    "root": is_root,
    "accent": is_accent,
    "operator": is_operator,
    "fence": is_fence,
    "middle": is_middle,
    "fraction": is_fraction,
    "table": is_table,
    "kern": is_kern,
    "style": is_style_item,
    "choice": is_choice,
}


def is_item(value):
    """Whether a value is one of the tuples, without regard to its formulas and to its place."""
    if not isinstance(value, tuple) or len(value) == 0:
        return False
    word = value[0]
    if not isinstance(word, str) or word not in CHECKS:
        return False
    check = CHECKS[word]
    return check(value)


def is_rows(value, many):
    """Whether a value is rows of a table with so many columns, without regard to the cells."""
    if not isinstance(value, list) or not 1 <= len(value) <= MOST_ROWS:
        return False
    if not all([is_word(row, ("rule",)) or is_cells(row, many) for row in value]):
        return False
    return any([isinstance(row, list) for row in value])


def is_cells(row, many):
    return isinstance(row, list) and len(row) == many


def formulas_of(item):
    """What stands where an item has formulas, as tuples (way, formula), in order.

    The way leads from the item to the formula. A script that is None is no formula.
    """
    word = item[0]
    formulas, scripts = PLACES[word]
    found = []
    for at in formulas:
        found.append(((at,), item[at]))
    if word == "table":
        found.extend(cells_of(item[2], 2))
    for at in scripts:
        if item[at] is not None:
            found.append(((at,), item[at]))
    return found


def cells_of(rows, at):
    return [
        ((at, row_at, cell_at), cell)
        for row_at, row in enumerate(rows) if isinstance(row, list)
        for cell_at, cell in enumerate(row)
    ]


def may_have_middles(item, way):
    """Whether the formula at this way of an item may have middles among its items."""
    return item[0] == "fence" and way == (2,)


def glyphs_told(item):
    """The glyphs that an item tells by itself, as tuples (family, name), in order."""
    if item[0] == "symbol":
        return [(item[2], item[3])]
    if item[0] == "accent":
        return [(item[1], item[2])]
    found = []
    for at in DELIMITER_PLACES.get(item[0], ()):
        if item[at] is not None:
            found.extend([item[at][:2], item[at][2:]])
    return found
