"""The plain kinds of values: each function tells whether any value at all is of its kind.

These run very often, so those that are asked most write their tests out instead of calling one another.
Python counts a bool among the integers; the document does not: hence the tests for True and False. What is plainly an
int needs no such test, and is looked at first.
"""

LIMIT = 10 ** 60
LEAST = -(10 ** 60)
MOST_FAMILIES = 4
SIZES = 3
STYLES = 8
MOST_LETTERS = 8

SYMBOL_CLASSES = ("ord", "bin", "rel", "open", "close", "punct")
LIST_CLASSES = ("ord", "bin", "rel", "open", "close", "punct", "op", "inner")
MOST_COLUMNS = 12
MOST_SIGNS = 36


def is_integer(value):
    return isinstance(value, int) and value is not True and value is not False


def is_between(value, least, greatest):
    if type(value) != int and (not isinstance(value, int) or value is True or value is False):
        return False
    return least <= value <= greatest


def is_amount(value):
    """An integer from 0 to 10 ** 60."""
    if type(value) != int and (not isinstance(value, int) or value is True or value is False):
        return False
    return 0 <= value <= LIMIT


def is_signed(value):
    """An integer from -10 ** 60 to 10 ** 60."""
    if type(value) != int and (not isinstance(value, int) or value is True or value is False):
        return False
    return LEAST <= value <= LIMIT


def is_word(value, words):
    # Only strings are compared: a comparison of bytes with strings may warn.
    return isinstance(value, str) and value in words


def is_name(value):
    return (
        isinstance(value, str) and len(value) <= MOST_LETTERS
        and value.isascii() and value.isalpha() and value.islower()
    )


def is_row(value, many):
    """A tuple of so many values."""
    return isinstance(value, tuple) and len(value) == many


def is_sequence(value):
    return isinstance(value, (list, tuple))


def is_family(value):
    """What a formula or a mark may tell as a family; fonts may have fewer."""
    if type(value) != int and (not isinstance(value, int) or value is True or value is False):
        return False
    return 0 <= value < MOST_FAMILIES


def is_size(value):
    if type(value) != int and (not isinstance(value, int) or value is True or value is False):
        return False
    return 0 <= value < SIZES


def is_style(value):
    if type(value) != int and (not isinstance(value, int) or value is True or value is False):
        return False
    return 0 <= value < STYLES


def is_path(value):
    if not isinstance(value, tuple):
        return False
    for step in value:
        if not ((type(step) == int or is_integer(step)) and step >= 0):
            return False
    return True


def is_delimiter(value):
    if value is None:
        return True
    if not isinstance(value, tuple) or len(value) != 4:
        return False
    family, name, large_family, large_name = value
    return is_family(family) and is_name(name) and is_family(large_family) and is_name(large_name)


def is_list_class(value):
    return isinstance(value, str) and value in LIST_CLASSES


def is_limits(value):
    return is_word(value, ("display", "always", "never"))


def is_thickness(value):
    return value is None or is_amount(value)


def is_told_style(value):
    """A style as a style item tells it: never a cramped one."""
    return is_integer(value) and value in (0, 2, 4, 6)


def is_columns(value):
    if not isinstance(value, str) or len(value) > MOST_SIGNS:
        return False
    return all([sign in "lcr|" for sign in value]) and 1 <= letter_count(value) <= MOST_COLUMNS


def letter_count(columns):
    return len(columns.replace("|", ""))
