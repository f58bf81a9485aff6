"""Checks of arguments: each one raises InvalidArgument with the name of a parameter that is not as told.

What is plainly right is seen at once, without a call: these checks run very often.
"""

from mathboxes.errors import InvalidArgument
from mathboxes.fonts import Fonts
from mathboxes.kinds import LEAST, LIMIT, STYLES, is_amount, is_delimiter, is_signed, is_size, is_style


def check_fonts(fonts):
    if not isinstance(fonts, Fonts):
        raise InvalidArgument("fonts")


def check_style(style):
    if not (type(style) == int and 0 <= style < STYLES or is_style(style)):
        raise InvalidArgument("style")


def check_size(size):
    if not is_size(size):
        raise InvalidArgument("size")


def check_delimiter(delimiter):
    if not is_delimiter(delimiter):
        raise InvalidArgument("delimiter")


def check_amount(value, part):
    """An integer from 0 to 10 ** 60."""
    if not (type(value) == int and 0 <= value <= LIMIT or is_amount(value)):
        raise InvalidArgument(part)


def check_signed(value, part):
    """An integer from -10 ** 60 to 10 ** 60."""
    if not (type(value) == int and LEAST <= value <= LIMIT or is_signed(value)):
        raise InvalidArgument(part)
