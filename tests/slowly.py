"""The points 30 to 35 once more, as they are written, from the functions that are told for boxes alone."""

from mathboxes.accents import accented, centered, overlined, underlined
from mathboxes.boxes import Box, beside
from mathboxes.delimiters import fence_least, grown, root
from mathboxes.errors import NoGlyph
from mathboxes.fractions import fraction
from mathboxes.lists import arranged, places_of, space
from mathboxes.operators import limited, operator_symbol
from mathboxes.scripts import scripted
from mathboxes.tables import tabled

SUP = (4, 5, 4, 5, 6, 7, 6, 7)
SUB = (5, 5, 5, 5, 7, 7, 7, 7)
NUM = (2, 3, 4, 5, 6, 7, 6, 7)
DEN = (3, 3, 5, 5, 7, 7, 7, 7)
SIZES = (0, 0, 0, 0, 1, 1, 2, 2)


def told(box, path):
    """The box with a path in the place of the path () of marks."""
    marks = [(x, y, (mark[0], mark[1] or path, *mark[2:])) for x, y, mark in box.marks]
    return Box(box.width, box.height, box.depth, marks)


def gap(width):
    return Box(width, 0, 0)


class Slowly:

    def __init__(self, fonts):
        self.fonts = fonts

    def glyph(self, family, size, name):
        if family >= self.fonts.family_count():
            raise NoGlyph(family, name)
        return self.fonts.glyph(family, size, name)

    def layout(self, formula, style, path=()):
        return self.side_by_side(self.entries(formula, style, path))

    def parts_of(self, formula, style):
        return [
            (place.path, place.kind, place.ahead, beside([box, gap(place.behind)]))
            for place, box in self.entries(formula, style, ())
        ]

    def side_by_side(self, entries):
        boxes = []
        for place, box in entries:
            boxes.extend([gap(place.ahead), box, gap(place.behind)])
        return beside(boxes)

    def entries(self, formula, style, path):
        places = places_of(self.fonts, formula, style, path)
        if not path:
            plain = [(place.path, place.kind, place.style, place.ahead, place.behind) for place in places]
            assert plain == arranged(self.fonts, formula, style)
        return [(place, self.box(place)) for place in places]

    def box(self, place):
        word = place.item[0]
        if word == "middle":
            return None
        if word in ("symbol", "kern", "accent", "operator", "fraction"):
            return getattr(self, word)(place.item, place.style, place)
        nucleus = told(getattr(self, word)(place.item, place.style, place.path), place.path)
        return self.with_scripts(nucleus, False, 0, place.item[-2:], place.style, self.ways(place))

    def ways(self, place):
        many = len(place.item)
        return [(*place.scripts_path, many - 2), (*place.scripts_path, many - 1)]

    def with_scripts(self, nucleus, is_glyph, slant, scripts, style, ways):
        if scripts == (None, None):
            return nucleus
        return scripted(self.fonts, style, nucleus, is_glyph, slant, *self.scripts(scripts, style, ways))

    def scripts(self, scripts, style, ways):
        sup, sub = scripts
        return (
            None if sup is None else self.layout(sup, SUP[style], ways[0]),
            None if sub is None else self.layout(sub, SUB[style], ways[1]),
        )

    def kern(self, item, style, place):
        number = item[1]
        if item[2] == "mu":
            number = number * self.fonts.number_at("quad", SIZES[style]) // 18
        return gap(number)

    def symbol(self, item, style, place):
        family, name, sup, sub = item[2:]
        width, height, depth, slant = self.glyph(family, SIZES[style], name)[:4]
        if place.is_text and self.fonts._families[family][SIZES[style]][2]:
            slant = 0
        mark = (0, 0, ("glyph", place.path, family, SIZES[style], name))
        if sub is None:
            nucleus, slant = Box(width + slant, height, depth, [mark]), 0
        else:
            nucleus = Box(width, height, depth, [mark])
        return self.with_scripts(nucleus, True, slant, (sup, sub), style, self.ways(place))

    def list(self, item, style, path):
        return self.layout(item[2], style, path + (2,))

    def over(self, item, style, path):
        return overlined(self.fonts, style, self.layout(item[1], style | 1, path + (1,)))

    def under(self, item, style, path):
        return underlined(self.fonts, style, self.layout(item[1], style, path + (1,)))

    def center(self, item, style, path):
        return centered(self.fonts, style, self.layout(item[1], style, path + (1,)))

    def root(self, item, style, path):
        return root(self.fonts, style, item[1], self.layout(item[2], style | 1, path + (2,)))

    def fraction(self, item, style, place):
        num = self.layout(item[1], NUM[style], place.path + (1,))
        den = self.layout(item[2], DEN[style], place.path + (2,))
        box = fraction(self.fonts, style, num, den, thickness=item[3], left=item[4], right=item[5])
        return told(box, place.path)

    def lone(self, formula):
        return len(formula) == 1 and formula[0][0] == "symbol" and formula[0][4:] == (None, None)

    def accent(self, item, style, place):
        _, family, name, formula, sup, sub = item
        self.glyph(family, SIZES[style], name)
        old = self.layout(formula, style | 1, place.path + (3,))
        if not self.lone(formula):
            box = told(accented(self.fonts, style, family, name, old), place.path)
            return self.with_scripts(box, False, 0, (sup, sub), style, self.ways(place))
        symbol = formula[0]
        pairs = self.fonts._families[symbol[2]][SIZES[style]][1]
        deed = pairs.get((symbol[3], self.fonts._skew), ("join", 0))
        skew = deed[1] if deed[0] == "kern" else 0
        if sup is None and sub is None:
            return told(accented(self.fonts, style, family, name, old, None, skew), place.path)
        width, height, depth, slant = self.glyph(symbol[2], SIZES[style], symbol[3])[:4]
        mark = (0, 0, ("glyph", place.path + (3, 0), symbol[2], SIZES[style], symbol[3]))
        nucleus = Box(width + (slant if sub is None else 0), height, depth, [mark])
        inner = self.with_scripts(
            nucleus, True, 0 if sub is None else slant, (sup, sub), style, self.ways(place))
        return told(accented(self.fonts, style, family, name, inner, old, skew), place.path)

    def operator(self, item, style, place):
        _, word, formula, sup, sub = item
        has_limits = word == "always" or (word == "display" and style in (0, 1))
        if self.lone(formula):
            family, name = formula[0][2:4]
            self.glyph(family, SIZES[style], name)
            nucleus, slant = operator_symbol(self.fonts, style, family, name, has_limits or sub is None)
            nucleus = told(nucleus, place.path + (2, 0))
        else:
            nucleus, slant = self.layout(formula, style, place.path + (2,)), 0
        if has_limits and (sup, sub) != (None, None):
            return limited(self.fonts, style, nucleus, slant, *self.scripts((sup, sub), style, self.ways(place)))
        return self.with_scripts(nucleus, False, slant if sub is not None else 0, (sup, sub), style, self.ways(place))

    def fence(self, item, style, path):
        _, left, formula, right, _, _ = item
        entries = self.entries(formula, style, path + (2,))
        atoms = [box for place, box in entries if place.kind is not None]
        height = max([0] + [box.height for box in atoms])
        depth = max([0] + [box.depth for box in atoms])
        size = SIZES[style]
        least = max(0, fence_least(self.fonts, size, height, depth))
        entries = [
            (place, told(grown(self.fonts, size, place.item[1], least), place.path) if box is None else box)
            for place, box in entries
        ]
        last = "open"
        for place, _ in entries:
            last = "open" if place.item[0] == "middle" else (place.kind or last)
        word = space(last, "close", style)
        room = 0 if word is None else self.fonts.number_at(word, None) * self.fonts.number_at("quad", size) // 18
        return beside([
            grown(self.fonts, size, left, least), self.side_by_side(entries), gap(room),
            grown(self.fonts, size, right, least),
        ])

    def table(self, item, style, path):
        rows = [
            row if row == "rule" else [self.layout(cell, style, path + (2, at, k)) for k, cell in enumerate(row)]
            for at, row in enumerate(item[2])
        ]
        return tabled(self.fonts, style, item[1], rows)
