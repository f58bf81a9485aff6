"""The items of formulas: which tuples they are, and where formulas stand in them."""

from mathboxes.kinds import is_columns, is_delimiter, is_family, is_limits, is_list_class, is_name, is_signed
from mathboxes.kinds import is_symbol_class, is_thickness, is_told_style, is_unit, is_word, letter_count

MOST_ROWS = 20

# What stands behind the word of an item, in order. At "formula" stands a formula,
# at "script" a formula or None, at "rows" the rows of a table.
FIELDS = {
    "symbol": ("class", "family", "name", "script", "script"),
    "list": ("group", "formula", "script", "script"),
    "over": ("formula", "script", "script"),
    "under": ("formula", "script", "script"),
    "center": ("formula", "script", "script"),
    "root": ("delimiter", "formula", "script", "script"),
    "accent": ("family", "name", "formula", "script", "script"),
    "operator": ("limits", "formula", "script", "script"),
    "fence": ("delimiter", "formula", "delimiter", "script", "script"),
    "middle": ("delimiter",),
    "fraction": ("formula", "formula", "thickness", "delimiter", "delimiter"),
    "table": ("columns", "rows", "script", "script"),
    "kern": ("signed", "unit"),
    "style": ("style",),
    "choice": ("formula", "formula", "formula", "formula"),
}


def is_item(value):
    """Whether a value is one of the tuples, without regard to its formulas and to its place."""
    if not isinstance(value, tuple) or len(value) == 0:
        return False
    word = value[0]
    if not isinstance(word, str) or word not in FIELDS:
        return False
    fields = FIELDS[word]
    if len(value) != len(fields) + 1:
        return False
    if not all([is_field(field, part) for field, part in zip(fields, value[1:])]):
        return False
    return word != "table" or is_rows(value[2], letter_count(value[1]))


def is_field(field, part):
    """Whether a part of an item is as its field asks; formulas and rows are not looked at."""
    if field == "family":
        return is_family(part)
    if field == "name":
        return is_name(part)
    if field == "delimiter":
        return is_delimiter(part)
    if field == "class":
        return is_symbol_class(part)
    if field == "group":
        return is_list_class(part)
    if field == "limits":
        return is_limits(part)
    if field == "thickness":
        return is_thickness(part)
    if field == "columns":
        return is_columns(part)
    if field == "signed":
        return is_signed(part)
    if field == "unit":
        return is_unit(part)
    if field == "style":
        return is_told_style(part)
    return True


def is_rows(value, many):
    """Whether a value is rows of a table with so many columns, without regard to the cells."""
    if not isinstance(value, list) or not 1 <= len(value) <= MOST_ROWS:
        return False
    if not all([is_word(row, ("rule",)) or is_cells(row, many) for row in value]):
        return False
    return any([isinstance(row, list) for row in value])


def is_cells(row, many):
    return isinstance(row, list) and len(row) == many


def formulas_of(item):
    """What stands where an item has formulas, as tuples (way, formula), in order.

    The way leads from the item to the formula. A script that is None is no formula.
    """
    found = []
    for at, field in enumerate(FIELDS[item[0]], start=1):
        if field == "formula" or (field == "script" and item[at] is not None):
            found.append(((at,), item[at]))
        elif field == "rows":
            found.extend(cells_of(item[at], at))
    return found


def cells_of(rows, at):
    return [
        ((at, row_at, cell_at), cell)
        for row_at, row in enumerate(rows) if isinstance(row, list)
        for cell_at, cell in enumerate(row)
    ]


def may_have_middles(item, way):
    """Whether the formula at this way of an item may have middles among its items."""
    return item[0] == "fence" and way == (2,)


def glyphs_told(item):
    """The glyphs that an item tells by itself, as tuples (family, name), in order."""
    found = []
    for at, field in enumerate(FIELDS[item[0]], start=1):
        if field == "family":
            found.append((item[at], item[at + 1]))
        elif field == "delimiter" and item[at] is not None:
            family, name, large_family, large_name = item[at]
            found.extend([(family, name), (large_family, large_name)])
    return found
