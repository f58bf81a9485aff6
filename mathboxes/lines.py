"""Displays broken into lines: where breaks may stand, what they cost, and which ones are the best."""

from mathboxes.checks import check_fonts, check_style
from mathboxes.errors import InvalidArgument, InvalidNumber, LimitExceeded
from mathboxes.formulas import check_formula
from mathboxes.kinds import is_amount, is_integer, is_row, is_word
from mathboxes.layout import placed_parts
from mathboxes.pagewidths import least_of, line_alone, with_line_ahead
from mathboxes.parts import Part, boxed, side_by_side

MOST_PLACES = 24
BREAK_CLASSES = ("bin", "rel")


def break_places(fonts, formula, style, where):
    """The places at which a line may begin, as tuples (place, class of the atom there)."""
    return list(display_of(fonts, formula, style, where).breaks)


def lines_box(fonts, formula, style, where, breaks):
    """The box of the lines below one another."""
    display = display_of(fonts, formula, style, where)
    check_breaks(display, breaks)
    return boxed(display.lines_part(breaks))


def line_costs(fonts, formula, style, where, breaks, width, costs):
    """The excess and the badness of breaks, as a tuple."""
    display = display_of(fonts, formula, style, where)
    check_breaks(display, breaks)
    check_width(width)
    check_costs(costs)
    excess, badness = 0, 0
    starts = [0] + [display.index_of(place) for place in breaks]
    for start, end in zip(starts, starts[1:] + [display.end]):
        more, worse = display.line_cost(start, end, width, costs)
        excess += more
        badness += worse
    return (excess, badness)


def broken(fonts, formula, style, where, width, costs):
    """The best breaks for a width."""
    display = display_of(fonts, formula, style, where)
    check_width(width)
    check_costs(costs)
    return best_breaks(display, width, costs)


def least_page(fonts, formula, style, where, most):
    """The least width for which so many lines are enough, none of them too long."""
    display = display_of(fonts, formula, style, where)
    if not is_integer(most) or most < 1:
        raise InvalidNumber(most)
    starts = range(display.end)
    # The least that the longest line needs, from each start on, with one line, with two, and so on.
    longest = [display.need(start, display.end) for start in starts]
    for _ in range(min(most, display.end) - 1):
        longest = [
            min([longest[start]] + [
                max(display.need(start, end), longest[end]) for end in range(start + 1, display.end)
            ])
            for start in starts
        ]
    return max(0, longest[0])


def pages(fonts, formula, style, where, costs, first, last):
    """The best breaks for all widths, as tuples (the first width, the last one, breaks)."""
    display = display_of(fonts, formula, style, where)
    check_costs(costs)
    check_width(first)
    check_width(last)
    if last < first:
        raise InvalidNumber(last)
    found = []
    for low, high, breaks in best_by_width(display, costs, first, last):
        if found and found[-1][2] == breaks:
            found[-1] = (found[-1][0], high, breaks)
        else:
            found.append((low, high, breaks))
    return [(low, high, list(breaks)) for low, high, breaks in found]


def display_of(fonts, formula, style, where):
    """A formula's row with its places for breaks; raise what all functions here raise first."""
    check_fonts(fonts)
    check_formula(formula)
    check_style(style)
    if not is_word(where, ("behind", "ahead")):
        raise InvalidArgument("where")
    display = Display(fonts, formula, style, where)
    if len(display.breaks) > MOST_PLACES:
        raise LimitExceeded(MOST_PLACES)
    return display


def check_breaks(display, breaks):
    if not isinstance(breaks, list):
        raise InvalidArgument("breaks")
    places = [place for place, _ in display.breaks]
    before = 0
    for place in breaks:
        if not is_integer(place) or place not in places or place <= before:
            raise InvalidArgument("breaks")
        before = place


def check_width(width):
    if not is_amount(width):
        raise InvalidNumber(width)


def check_costs(costs):
    if not is_row(costs, 2) or not is_amount(costs[0]) or not is_amount(costs[1]):
        raise InvalidArgument("costs")


class Display:
    """A formula's row, ready to be broken.

    A start is the place 0, or one where a break may stand; starts are counted from 0, and behind the last one stands
    the end.
    """

    def __init__(self, fonts, formula, style, where):
        self.fonts = fonts
        self.entries = placed_parts(fonts, formula, style)
        shift = 1 if where == "behind" else 0
        self.breaks = [
            (at + shift, place.kind) for at, (place, _) in enumerate(self.entries)
            if place.kind in BREAK_CLASSES and 0 < at + shift < len(self.entries)
        ]
        self.starts = [0] + [place for place, _ in self.breaks]
        self.end = len(self.starts)
        self.indent = fonts.setting_of("indent")
        # How far each place is from the left end of the whole row, without and with the space ahead of it.
        ends, lefts = [], []
        x = 0
        for place, part in self.entries:
            ends.append(x)
            lefts.append(x + place.ahead)
            x += place.ahead + part.width
        # An empty row has a start, too.
        ends.append(x)
        lefts.append(x)
        self.ends = [ends[place] for place in self.starts] + [x]
        self.lefts = [lefts[place] for place in self.starts]

    def index_of(self, place):
        return self.starts.index(place)

    def need(self, start, end):
        """What the line needs that goes from one start up to another, or to the end."""
        return self.ends[end] - self.lefts[start] + (self.indent if start > 0 else 0)

    def cost_at(self, start, costs):
        """What the break at a start costs; there is none at the end."""
        if start == self.end:
            return 0
        return costs[BREAK_CLASSES.index(self.breaks[start - 1][1])]

    def line_cost(self, start, end, width, costs):
        """What a line adds to excess and badness, with the break behind it."""
        lacking = self.need(start, end) - width
        cost = self.cost_at(end, costs)
        if lacking > 0:
            return lacking, cost
        return 0, cost if end == self.end else cost + lacking * lacking

    def lines_part(self, breaks):
        """The lines below one another."""
        starts = [0] + breaks
        lines = [self.line_part(start, end) for start, end in zip(starts, breaks + [len(self.entries)])]
        widths = [0]
        marks = []
        y = 0
        for at, line in enumerate(lines):
            indent = self.indent if at > 0 else 0
            if at > 0:
                needed = lines[at - 1].depth + self.fonts.setting_of("apart") + line.height
                y += max(self.fonts.setting_of("baseline"), needed)
            widths.append(indent + line.width)
            marks.append((indent, -y, line))
        return Part(max(widths), lines[0].height, y + lines[-1].depth, marks)

    def line_part(self, first, end):
        """The boxes from one place up to another, each one behind its space but for the first one."""
        parts = []
        for place, part in self.entries[first:end]:
            if parts:
                parts.append(Part(place.ahead, 0, 0, []))
            parts.append(part)
        return side_by_side(self.fonts, parts)


def best_breaks(display, width, costs):
    """The best breaks for a width, looked for from the last start on.

    Both what lines add and the order in which lists of breaks are better let us put the best rest behind each line.
    """
    best = {display.end: (0, 0, 0, [])}
    for start in range(display.end - 1, -1, -1):
        found = []
        for end in range(start + 1, display.end + 1):
            excess, badness = display.line_cost(start, end, width, costs)
            more, worse, many, breaks = best[end]
            ahead = [] if end == display.end else [display.starts[end]]
            found.append((excess + more, badness + worse, len(ahead) + many, ahead + breaks))
        best[start] = min(found)
    return best[0][3]


def best_by_width(display, costs, first, last):
    """As best_breaks, for all widths at once, as tuples (the first width, the last one, breaks)."""
    best = {}
    for start in range(display.end - 1, -1, -1):
        found = line_alone(display.need(start, display.end), first, last)
        for end in range(start + 1, display.end):
            need, cost = display.need(start, end), display.cost_at(end, costs)
            found = least_of(found, with_line_ahead(best[end], need, cost, display.starts[end]))
        best[start] = found
    return [(low, high, line[-1]) for low, high, line in best[0]]
