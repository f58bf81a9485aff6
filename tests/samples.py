"""Small fonts, formulas and odd values that several tests use."""

import copy
import unittest

from mathboxes.boxes import Box
from mathboxes.fonts import Fonts

LIMIT = 10 ** 60

NUMBER_WORDS = (
    "xheight quad up1 up2 up3 down1 down2 sup1 sup2 sup3 sub1 sub2 supdrop subdrop delim1 delim2 axis rule "
    "gap1 gap2 gap3 gap4 gap5"
).split()
SETTING_WORDS = "scriptspace factor short empty thin medium thick baseline apart column indent".split()

A = (500, 400, 0, 20, None, None)
PLUS = (700, 600, 80, 0, None, None)


def a_face():
    return ({"a": A, "plus": PLUS}, {("a", "plus"): ("kern", -30), ("a", "a"): ("join", "plus")}, False)


def a_family():
    return (a_face(), a_face(), a_face())


def a_table(words, first):
    return {word: first + at for at, word in enumerate(words)}


def some_numbers():
    return tuple(a_table(NUMBER_WORDS, first) for first in (100, 200, 300))


def some_settings():
    return a_table(SETTING_WORDS, 1)


def some_fonts(families=None, skew=None):
    return Fonts(families or [a_family()], some_numbers(), some_settings(), skew=skew)


def fonts_of(glyphs, pairs=None):
    """Fonts with one family, whose three faces are alike."""
    return some_fonts([tuple((glyphs, pairs or {}, False) for _ in range(3))])


def odd_values():
    """Values of built-in types and of the package that are no integer, no string and no container of use."""
    return [
        True, False, 1.0, 0.0, float("nan"), 1j, "1", "", "a b", b"a", bytearray(b"a"), [], [1], {}, {"a": 1},
        {1, 2}, frozenset([1]), (True,), ((),), ([],), range(2), slice(1), object(), int, len, NotImplemented,
        Ellipsis, memoryview(b"a"), iter([]), Fonts, Box(0, 0, 0), some_fonts(),
    ]


def symbol(name="a", sup=None, sub=None, family=0, kind="ord"):
    return ("symbol", kind, family, name, sup, sub)


def nest(deep, innermost=None):
    """A formula with formulas so deep in one another."""
    formula = [] if innermost is None else innermost
    for _ in range(deep - 1):
        formula = [("list", "ord", formula, None, None)]
    return formula


def lists_and_dicts(value):
    """The identities of all lists and dicts within a value."""
    found = []
    if isinstance(value, (list, dict)):
        found.append(id(value))
    if isinstance(value, dict):
        value = list(value.items())
    if isinstance(value, (list, tuple)):
        for part in value:
            found.extend(lists_and_dicts(part))
    return found


class Case(unittest.TestCase):
    """Asks for an error with its attributes, and for arguments that stay as they are."""

    def assertTells(self, error, attributes, function, *args, **more):
        with self.assertRaises(error) as caught:
            function(*args, **more)
        self.assertIs(caught.exception.__class__, error)
        told = vars(caught.exception)
        self.assertEqual(sorted(told), sorted(attributes))
        for name, value in attributes.items():
            self.assertIs(told[name].__class__, value.__class__, name)
            self.assertEqual(repr(told[name]), repr(value), name)

    def assertLeaves(self, function, *args):
        """Call a function, and see that it changes no argument and returns none of its lists."""
        before = copy.deepcopy(args)
        result = function(*args)
        self.assertEqual(args, before)
        for other in (args, function(*args)):
            self.assertFalse(set(lists_and_dicts(result)) & set(lists_and_dicts(other)))
        return result
