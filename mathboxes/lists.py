"""Rows: what stands side by side in a formula, with its classes, its pairs and its spaces."""

from mathboxes.checks import check_fonts, check_style
from mathboxes.errors import InvalidArgument
from mathboxes.formulas import check_formula
from mathboxes.kinds import is_list_class
from mathboxes.measures import SIZES_OF_STYLES

SUP_STYLES = (4, 5, 4, 5, 6, 7, 6, 7)
SUB_STYLES = (5, 5, 5, 5, 7, 7, 7, 7)
NUM_STYLES = (2, 3, 4, 5, 6, 7, 6, 7)
DEN_STYLES = (3, 3, 5, 5, 7, 7, 7, 7)
SCRIPT = 4

# The words of the spaces between two classes; where none stands here, there is none.
SPACES = {
    ("ord", "op"): "thin", ("ord", "bin"): "medium", ("ord", "rel"): "thick", ("ord", "inner"): "thin",
    ("op", "ord"): "thin", ("op", "op"): "thin", ("op", "rel"): "thick", ("op", "inner"): "thin",
    ("bin", "ord"): "medium", ("bin", "op"): "medium", ("bin", "open"): "medium", ("bin", "inner"): "medium",
    ("rel", "ord"): "thick", ("rel", "op"): "thick", ("rel", "open"): "thick", ("rel", "inner"): "thick",
    ("close", "op"): "thin", ("close", "bin"): "medium", ("close", "rel"): "thick", ("close", "inner"): "thin",
    ("punct", "ord"): "thin", ("punct", "op"): "thin", ("punct", "rel"): "thin", ("punct", "open"): "thin",
    ("punct", "close"): "thin", ("punct", "punct"): "thin", ("punct", "inner"): "thin",
    ("inner", "ord"): "thin", ("inner", "op"): "thin", ("inner", "bin"): "medium", ("inner", "rel"): "thick",
    ("inner", "open"): "thin", ("inner", "punct"): "thin", ("inner", "inner"): "thin",
}
PAIRS_IN_SCRIPTS = (("ord", "op"), ("op", "ord"), ("op", "op"), ("close", "op"), ("inner", "op"))

BEFORE_EARLY = ("bin", "op", "rel", "open", "punct")
BEHIND_LATE = ("rel", "close", "punct")
ITEM_CLASSES = {"operator": "op", "fraction": "inner", "fence": "inner"}


class Place:
    """What stands at one place of a row: an atom, a kern or a middle, in its style."""

    def __init__(self, path, item, style):
        self.path = path
        # With which path those of its scripts begin: of symbols that were joined that of the last one.
        self.scripts_path = path
        self.item = item
        self.style = style
        self.size = SIZES_OF_STYLES[style]
        # The class of an atom; the space ahead of it; the kern of a pair behind it.
        self.kind = None
        self.ahead = 0
        self.behind = 0
        self.is_text = False


def sup_style(style):
    return SUP_STYLES[style]


def sub_style(style):
    return SUB_STYLES[style]


def num_style(style):
    return NUM_STYLES[style]


def den_style(style):
    return DEN_STYLES[style]


def cramped(style):
    return style | 1


# By which functions the styles of formulas within items go, told by the item's word and by where the formula stands in
# it; where none stands here, it is the item's own style.
STYLES_WITHIN = {
    ("over", 1): cramped, ("root", 2): cramped, ("accent", 3): cramped,
    ("fraction", 1): num_style, ("fraction", 2): den_style,
    ("symbol", 4): sup_style, ("symbol", 5): sub_style, ("list", 3): sup_style, ("list", 4): sub_style,
    ("over", 2): sup_style, ("over", 3): sub_style, ("under", 2): sup_style, ("under", 3): sub_style,
    ("center", 2): sup_style, ("center", 3): sub_style, ("root", 3): sup_style, ("root", 4): sub_style,
    ("accent", 4): sup_style, ("accent", 5): sub_style, ("operator", 3): sup_style, ("operator", 4): sub_style,
    ("fence", 4): sup_style, ("fence", 5): sub_style, ("table", 3): sup_style, ("table", 4): sub_style,
}


def style_within(word, at, style):
    """The style of a formula that stands somewhere in an item of a style; not for what a choice has."""
    rule = STYLES_WITHIN.get((word, at))
    return style if rule is None else rule(style)


def space(one, other, style):
    """The word of the space between atoms of two classes, or None."""
    if not is_list_class(one):
        raise InvalidArgument("one")
    if not is_list_class(other):
        raise InvalidArgument("other")
    check_style(style)
    return space_between(one, other, style)


def space_between(one, other, style):
    """As space, without its checks."""
    if style >= SCRIPT and (one, other) not in PAIRS_IN_SCRIPTS:
        return None
    return SPACES.get((one, other))


def room_between(fonts, one, other, style):
    """How wide the space between two classes is."""
    word = space_between(one, other, style)
    if word is None:
        return 0
    return fonts.setting_of(word) * fonts.number_of("quad", SIZES_OF_STYLES[style]) // 18


def arranged(fonts, formula, style):
    """What stands in the row of a formula, as tuples (path, class, style, space ahead, kern behind)."""
    check_fonts(fonts)
    check_formula(formula)
    check_style(style)
    return [
        (place.path, place.kind, place.style, place.ahead, place.behind)
        for place in places_of(fonts, formula, style, ())
    ]


def places_of(fonts, formula, style, path):
    """The places of the row of a right formula, with classes and spaces, pairs being joined or kerned.

    The path is the one that the paths of the formula's items begin with.
    """
    row = row_of(formula, style, path)
    found = []
    # What stands behind nothing, or behind a middle, is as behind an open one: early, without space.
    before = "open"
    at = 0
    while at < len(row):
        place = row[at]
        found.append(place)
        word = place.item[0]
        if word == "middle":
            place.ahead = room_between(fonts, before, "close", place.style)
            before = "open"
            at += 1
        elif word == "kern":
            at += 1
        else:
            at = settled(fonts, row, at, before)
            before = place.kind
    return found


def class_at_end(places):
    """The class by which a space behind a row goes: that of its last atom, or as behind nothing or a middle."""
    for place in reversed(places):
        if place.kind is not None:
            return place.kind
        if place.item[0] == "middle":
            return "open"
    return "open"


def row_of(formula, style, path):
    """The row of a formula as it is written, without style items and choices."""
    row = []
    gather(row, formula, style, path)
    return row


def gather(row, formula, style, path):
    """Put what a formula has into a row; return the style that holds at its end."""
    for at, item in enumerate(formula):
        if item[0] == "style":
            style = style_behind(item, style)
        elif item[0] == "choice":
            taken = taken_of(style)
            style = gather(row, item[taken], style, (*path, at, taken))
        else:
            row.append(Place((*path, at), item, style))
    return style


def style_behind(item, style):
    """The style that holds behind a style item: what began in a cramped one stays cramped."""
    return item[1] | (style & 1)


def taken_of(style):
    """Which one of a choice's formulas belongs to a style, told by where it stands in the choice."""
    return style // 2 + 1


def class_told(item):
    """The class that an atom has by itself, before what stands around it is looked at."""
    if item[0] == "symbol" or item[0] == "list":
        return item[1]
    return ITEM_CLASSES.get(item[0], "ord")


def class_behind(row, at):
    """The class of the next atom behind a place; a middle, and the end, are as a close one."""
    for place in row[at + 1:]:
        if place.item[0] == "middle":
            return "close"
        if place.item[0] != "kern":
            return class_told(place.item)
    return "close"


def settled(fonts, row, at, before):
    """Give an atom its class, its space and its pair; return the place that comes next."""
    place = row[at]
    kind = class_told(place.item)
    is_late = False
    if kind == "bin":
        if before in BEFORE_EARLY:
            kind = "ord"
        elif class_behind(row, at) in BEHIND_LATE:
            kind = "ord"
            is_late = True
    place.kind = kind
    # Behind an open one, and so at the beginning of a row, there is never any space.
    if before != "open":
        place.ahead = room_between(fonts, before, kind, place.style)
    if kind == "ord" and not is_late:
        return paired(fonts, row, at)
    return at + 1


def paired(fonts, row, at):
    """Join an ord symbol with what stands behind it, or kern it; return the place that comes next."""
    place = row[at]
    later = at + 1
    while later < len(row) and are_side_by_side(place, row[later]):
        family = place.item[2]
        other = row[later].item
        deed = fonts.pair_if_any(family, place.size, place.item[3], other[3])
        if deed is None or deed[0] == "kern":
            place.is_text = True
            place.behind = 0 if deed is None else deed[1]
            return later
        # The one that comes of a join is looked at again, with the next one behind it.
        place.item = ("symbol", "ord", family, deed[1], other[4], other[5])
        place.scripts_path = row[later].path
        later += 1
    return later


def are_side_by_side(place, other):
    """Whether two places are symbols whose pair is looked at: the first one is a text symbol then."""
    one, two = place.item, other.item
    if one[0] != "symbol" or one[4] is not None or one[5] is not None or two[0] != "symbol":
        return False
    return one[2] == two[2] and place.size == other.size
