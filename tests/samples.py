"""Small fonts, formulas and odd values that several tests use."""

import copy
import unittest

from mathboxes.boxes import Box
from mathboxes.fonts import Fonts

LIMIT = 10 ** 60

NUMBER_WORDS = (
    "xheight quad up1 up2 up3 down1 down2 sup1 sup2 sup3 sub1 sub2 supdrop subdrop delim1 delim2 axis rule "
    "gap1 gap2 gap3 gap4 gap5"
).split()
SETTING_WORDS = "scriptspace factor short empty thin medium thick baseline apart column indent".split()

A = (500, 400, 0, 20, None, None)
PLUS = (700, 600, 80, 0, None, None)


def a_face():
    return ({"a": A, "plus": PLUS}, {("a", "plus"): ("kern", -30), ("a", "a"): ("join", "plus")}, False)


def a_family():
    return (a_face(), a_face(), a_face())


def a_table(words, first):
    return {word: first + at for at, word in enumerate(words)}


def some_numbers():
    return tuple(a_table(NUMBER_WORDS, first) for first in (100, 200, 300))


def some_settings():
    return a_table(SETTING_WORDS, 1)


def some_fonts(families=None, skew=None):
    return Fonts(families or [a_family()], some_numbers(), some_settings(), skew=skew)


def fonts_of(glyphs, pairs=None):
    """Fonts with one family, whose three faces are alike."""
    return some_fonts([tuple((glyphs, pairs or {}, False) for _ in range(3))])


def odd_values():
    """Values of built-in types and of the package that are no integer, no string and no container of use."""
    return [
        True, False, 1.0, 0.0, float("nan"), 1j, "1", "", "a b", b"a", bytearray(b"a"), [], [1], {}, {"a": 1},
        {1, 2}, frozenset([1]), (True,), ((),), ([],), range(2), slice(1), object(), int, len, NotImplemented,
        Ellipsis, memoryview(b"a"), iter([]), Fonts, Box(0, 0, 0), some_fonts(),
    ]


def fonts_with(numbers=(), settings=(), glyphs=(), pairs=()):
    """Fonts whose numbers are 0, but for some told by (word, size), or by a word for all sizes.

    All faces are alike, but for the glyphs and pairs that are told with a family and a size ahead:
    {(1, 0, "a"): ..} beside {"a": ..}. There are two families.
    """
    tables = [dict.fromkeys(NUMBER_WORDS, 0) for _ in range(3)]
    for at, number in dict(numbers).items():
        word, sizes = (at, (0, 1, 2)) if isinstance(at, str) else (at[0], at[1:])
        for size in sizes:
            tables[size][word] = number
    families = [tuple(face_with(family, size, dict(glyphs), dict(pairs)) for size in range(3)) for family in (0, 1)]
    return Fonts(families, tuple(tables), {**dict.fromkeys(SETTING_WORDS, 0), **dict(settings)})


def face_with(family, size, glyphs, pairs):
    here = {}
    for name, told in glyphs.items():
        if isinstance(name, str):
            here[name] = told
    for name, told in glyphs.items():
        if not isinstance(name, str) and name[:2] == (family, size):
            here[name[2]] = told
    told = {pair[-2:]: deed for pair, deed in pairs.items() if len(pair) == 2 or pair[:2] == (family, size)}
    return (here, told, False)


def rule(x=0, y=0, width=3, height=1, path=(0,)):
    return (x, y, ("rule", path, width, height))


def glyph(x=0, y=0, name="a", family=0, size=0, path=(0,)):
    return (x, y, ("glyph", path, family, size, name))


def wrong_boxes():
    """Wrong boxes by the part that is told; the parts behind it are wrong, too."""
    found = [("box", value) for value in [None, 0, (3, 2, 1, [])] + odd_values() if not isinstance(value, Box)]
    for value in [LIMIT + 1, -LIMIT - 1, None] + odd_values():
        found.append(("width", Box(value, None, None, [0])))
        found.append(("height", Box(1, value, None, [0])))
        found.append(("depth", Box(1, 2, value, [0])))
        if value != [] and not isinstance(value, (str, bytes)):
            found.append(("marks", Box(1, 2, 3, [value])))
    return found


def symbol(name="a", sup=None, sub=None, family=0, kind="ord"):
    return ("symbol", kind, family, name, sup, sub)


def no_fonts():
    return [None, 0, "fonts", a_family()] + [value for value in odd_values() if not isinstance(value, Fonts)]


def no_styles():
    return [-1, 8, None, LIMIT, "style"] + odd_values()


def no_sizes():
    return [-1, 3, None, LIMIT] + odd_values()


def no_delimiters():
    """What is no delimiter, also with wrong parts of any kind at each place of its tuple."""
    right = (0, "p", 3, "q")
    found = [0, (), right[:3], (*right, 0), list(right), ("p", 0, "q", 0)] + odd_values()
    for at in range(4):
        for value in [None, -1, 4, "P", "abcdefghi"] + odd_values():
            found.append((*right[:at], value, *right[at + 1:]))
    return found


def no_amounts():
    """What is no integer from 0 to 10 ** 60."""
    return [-1, LIMIT + 1, None] + odd_values()


def no_signed():
    """What is no integer from -10 ** 60 to 10 ** 60."""
    return [-LIMIT - 1, LIMIT + 1, None] + odd_values()


def no_boxes():
    return [box for _, box in wrong_boxes()]


def nest(deep, innermost=None):
    """A formula with formulas so deep in one another."""
    formula = [] if innermost is None else innermost
    for _ in range(deep - 1):
        formula = [("list", "ord", formula, None, None)]
    return formula


def lists_and_dicts(value):
    """The identities of all lists and dicts within a value."""
    found = []
    if isinstance(value, (list, dict)):
        found.append(id(value))
    if isinstance(value, dict):
        value = list(value.items())
    if isinstance(value, (list, tuple)):
        for part in value:
            found.extend(lists_and_dicts(part))
    return found


class Case(unittest.TestCase):
    """Asks for an error with its attributes, and for arguments that stay as they are."""

    def assertTells(self, error, attributes, function, *args, **more):
        with self.assertRaises(error) as caught:
            function(*args, **more)
        self.assertIs(caught.exception.__class__, error)
        told = vars(caught.exception)
        self.assertEqual(sorted(told), sorted(attributes))
        for name, value in attributes.items():
            self.assertIs(told[name].__class__, value.__class__, name)
            self.assertEqual(repr(told[name]), repr(value), name)

    def assertRefuses(self, function, right, wrong):
        """See that each wrong argument is told, ahead of those behind it, which are wrong, too.

        right is a dict of right arguments; wrong a list of tuples (name, values, error, its attributes).
        """
        function(**right)
        for at, (name, values, error, told) in enumerate(wrong):
            later = {other[0]: other[1][0] for other in reversed(wrong[at + 1:])}
            for value in values:
                self.assertTells(error, told, function, **{**right, name: value})
                self.assertTells(error, told, function, **{**right, **later, name: value})

    def assertLeaves(self, function, *args):
        """Call a function, and see that it changes no argument and returns none of its lists."""
        before = copy.deepcopy(args)
        result = function(*args)
        self.assertEqual(args, before)
        for other in (args, function(*args)):
            self.assertFalse(set(lists_and_dicts(result)) & set(lists_and_dicts(other)))
        return result
