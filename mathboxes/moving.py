"""Numbers that move: the sizes of a formula's box while one number of the fonts grows step by step."""

from mathboxes.checks import check_fonts, check_signed, check_style
from mathboxes.errors import InvalidArgument
from mathboxes.faces import check_place
from mathboxes.formulas import check_formula
from mathboxes.kinds import LIMIT, is_between, is_word
from mathboxes.layout import formula_part
from mathboxes.watches import DecidedFonts, Run, Stretch, sizes_behind

GRAIN = 9 * 10 ** 24
MOST_STEPS = 10 ** 30
PARTS = ("width", "height", "depth")
FLAT = (0, 0, 0)


def pieces(fonts, formula, style, word, size, step, last):
    """The pieces in which the sizes go in straight lines, as tuples (first, last, sizes, slopes)."""
    check_move(fonts, [formula], style, word, size, step, last)
    move = Move(fonts, formula, style, word, size, step, last)
    found = []
    while move.goes_on():
        put_stretch(found, move.next_stretch())
    return found


def first_step(fonts, formula, style, word, size, step, last, part, bound):
    """The least step with which a size is at least a bound, or None."""
    check_move(fonts, [formula], style, word, size, step, last)
    if not is_word(part, PARTS):
        raise InvalidArgument("part")
    check_signed(bound, "bound")
    which = PARTS.index(part)
    move = Move(fonts, formula, style, word, size, step, last)
    while move.goes_on():
        stretch = move.next_stretch()
        lacking = bound - stretch.sizes[which]
        slope = stretch.slopes[which]
        if lacking <= 0:
            return stretch.first
        if slope > 0 and stretch.has(stretch.first + (lacking + slope - 1) // slope):
            return stretch.first + (lacking + slope - 1) // slope
    return None


def ranges(fonts, formula, style, word, size, step, last):
    """The least and the greatest value of each size."""
    check_move(fonts, [formula], style, word, size, step, last)
    move = Move(fonts, formula, style, word, size, step, last)
    ends = []
    while move.goes_on():
        stretch = move.next_stretch()
        ends.append(stretch.sizes)
        ends.append(stretch.sizes_at(stretch.last))
    values = [[sizes[which] for sizes in ends] for which in range(len(PARTS))]
    return tuple([(min(row), max(row)) for row in values])


def parting(fonts, formula, other, style, word, size, step, last):
    """The least step at which the boxes of two formulas have unlike sizes, or None."""
    check_move(fonts, [formula, other], style, word, size, step, last)
    one = Move(fonts, formula, style, word, size, step, last)
    two = Move(fonts, other, style, word, size, step, last)
    at = 0
    while at <= last:
        first, second = one.stretch_with(at), two.stretch_with(at)
        if first.sizes_at(at) != second.sizes_at(at):
            return at
        end = min(first.last, second.last)
        if at < end and first.slopes != second.slopes:
            return at + 1
        at = end + 1
    return None


def check_move(fonts, formulas, style, word, size, step, last):
    check_fonts(fonts)
    for formula in formulas:
        check_formula(formula)
    check_style(style)
    if is_word(word, ("factor",)):
        raise InvalidArgument("word")
    check_place(word, size)
    if not is_between(step, GRAIN, LIMIT) or step // GRAIN * GRAIN != step:
        raise InvalidArgument("step")
    if not is_between(last, 0, MOST_STEPS) or fonts.number_at(word, size) + last * step > LIMIT:
        raise InvalidArgument("last")


class Move:
    """The sizes of a formula, followed from step 0 on as far as each stretch goes."""

    def __init__(self, fonts, formula, style, word, size, step, last):
        self.fonts = fonts
        self.formula = formula
        self.style = style
        self.word = word
        self.size = size
        self.number = fonts.number_at(word, size)
        self.step = step
        self.last = last
        self.stretches = {}
        # Where the next stretch begins, and the one that was found last.
        self.at = 0
        self.found = None

    def goes_on(self):
        return self.at <= self.last

    def run_at(self, at):
        """What comes of the formula at a step, and what of the items within it."""
        changed = self.fonts.with_number(self.word, self.size, self.number + at * self.step)
        fonts = DecidedFonts(changed, at, self.stretches)
        part = formula_part(fonts, self.formula, self.style, ())
        return Run(part, fonts.turns, fonts.tests), fonts.runs

    def next_stretch(self):
        """The next stretch of the formula.

        Sizes are made of numbers by sums and by parts that grow evenly, once it is decided which of two numbers is the
        greater one and the like. So they go in a straight line as long as nothing else is decided; and so do the tests,
        of which two steps tell how long that is. A stretch that is known of an item serves as one test more.
        """
        first = self.at
        whole, runs = self.run_at(first)
        self.found = Stretch(first, first, whole.sizes, FLAT)
        if first < self.last:
            later_whole, later_runs = self.run_at(first + 1)
            for key, run in runs.items():
                if later_runs[key].turns == run.turns:
                    self.stretches[key] = stretch_of(run, later_runs[key], first, self.last)
            if later_whole.turns == whole.turns:
                self.found = stretch_of(whole, later_whole, first, self.last)
        self.at = self.found.last + 1
        return self.found

    def stretch_with(self, at):
        """The stretch in which a step is that lies in the one found last or behind it."""
        while self.found is None or not self.found.has(at):
            self.next_stretch()
        return self.found


def stretch_of(run, later, first, last):
    """The stretch of a formula or an item from a step on, told by what came of it there and a step later."""
    slopes = tuple([after - before for before, after in zip(run.sizes, later.sizes)])
    many = last - first
    for before, after in zip(run.tests, later.tests):
        if after < before:
            many = min(many, before // (before - after))
    return Stretch(first, first + many, run.sizes, slopes)


def put_stretch(found, stretch):
    """Put a stretch behind the pieces that were found, of which the last one is made as long as it can be."""
    first, last, sizes, slopes = stretch.first, stretch.last, stretch.sizes, stretch.slopes
    if found:
        begin, end, start, steep = found[-1]
        if begin == end:
            # One step alone and the next one always lie in a straight line.
            steep = tuple([after - before for before, after in zip(start, sizes)])
        if sizes_behind(start, steep, first - begin) == sizes:
            if first == last or slopes == steep:
                found[-1] = (begin, last, start, steep)
                return
            found[-1] = (begin, first, start, steep)
            first += 1
            sizes = stretch.sizes_at(first)
    found.append((first, last, sizes, slopes if first < last else FLAT))
