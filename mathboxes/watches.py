"""Fonts that remember or note what is done with them while a formula is laid out.

Of each item that stands in a row they are asked first whether its box is remembered; if not, they are told the box as
soon as it is there.
"""

from mathboxes.fonts import Fonts
from mathboxes.measures import repeats_for
from mathboxes.parts import Part


def key_of(place):
    """What tells, for one formula, what stands at a place; symbols may be joined, or be text symbols, or not."""
    return (place.path, place.scripts_path, place.style, place.is_text)


class KeepingFonts(Fonts):
    """Fonts for one formula in several styles: what comes again in the same style is not laid out again."""

    def __init__(self, fonts):
        Fonts.__init__(self, fonts.kept, None, None)
        self.remembers = True
        self.parts = {}

    def remembered(self, place):
        return self.parts.get(key_of(place))

    def remember(self, place, part):
        self.parts[key_of(place)] = part


class NotedFonts(Fonts):
    """Fonts that note which numbers are looked at, as tuples (word, size), and for which items."""

    def __init__(self, fonts):
        Fonts.__init__(self, fonts.kept, None, None)
        self.remembers = True
        # What was noted of the items that are being laid out, the innermost one last; ahead of them, of the whole.
        self.open_notes = [{}]
        # For each item that was laid out its box and what was noted of it.
        self.parts = {}

    def number_of(self, word, size):
        self.open_notes[-1][word, size] = True
        return self._numbers[size][word]

    def setting_of(self, word):
        self.open_notes[-1][word, None] = True
        return self._settings[word]

    def remembered(self, place):
        self.open_notes.append({})
        return None

    def remember(self, place, part):
        notes = self.open_notes.pop()
        self.parts[key_of(place)] = (part, notes)
        around = self.open_notes[-1]
        for number in notes:
            around[number] = True

    def has_noted(self, word, size):
        """Whether a number was looked at at all."""
        return (word, size) in self.open_notes[0]


class RememberingFonts(Fonts):
    """Fonts with another number at one place, that remember what was laid out without a look at this place."""

    def __init__(self, noted, word, size, number):
        Fonts.__init__(self, noted.with_number(word, size, number).kept, None, None)
        self.remembers = True
        self.parts = noted.parts
        self.place = (word, size)

    def remembered(self, place):
        part, notes = self.parts.get(key_of(place), (None, ()))
        return None if self.place in notes else part

    def remember(self, place, part):
        # It hangs on the number, which is another one just once.
        return None


class Run:
    """What came of an item or a formula that was laid out once: its sizes, and what was decided on the way to them."""

    def __init__(self, part, turns, tests):
        self.sizes = (part.width, part.height, part.depth)
        self.turns = turns
        self.tests = tests


class Stretch:
    """Steps in which the sizes of an item or a formula go in a straight line."""

    def __init__(self, first, last, sizes, slopes):
        self.first = first
        self.last = last
        self.sizes = sizes
        self.slopes = slopes

    def has(self, step):
        return self.first <= step <= self.last

    def sizes_at(self, step):
        return sizes_behind(self.sizes, self.slopes, step - self.first)


def sizes_behind(sizes, slopes, steps):
    return tuple([there + steps * slope for there, slope in zip(sizes, slopes)])


class DecidedFonts(Fonts):
    """The fonts of one step of a move, which note what is decided by numbers, in order.

    Each turn is a number that tells what was decided; one below 0 tells which stretch was known of an item, and that
    this was not laid out. The tests are numbers that are at least 0: as long as they stay so, the turns stay as they
    are, too.
    """

    def __init__(self, fonts, step, stretches):
        Fonts.__init__(self, fonts.kept, None, None)
        self.remembers = True
        self.step = step
        # What is known of items: these need not be laid out.
        self.stretches = stretches
        self.turns = []
        self.tests = []
        # For the items that are being laid out, how many turns and tests there were ahead of them.
        self.begun = []
        self.runs = {}

    def remembered(self, place):
        stretch = self.stretches.get(key_of(place))
        if stretch is not None and stretch.has(self.step):
            self.turns.append(-1 - stretch.first)
            self.tests.append(stretch.last - self.step)
            width, height, depth = stretch.sizes_at(self.step)
            return Part(width, height, depth, [])
        self.begun.append((len(self.turns), len(self.tests)))
        return None

    def remember(self, place, part):
        turns, tests = self.begun.pop()
        self.runs[key_of(place)] = Run(part, self.turns[turns:], self.tests[tests:])

    def greatest(self, numbers):
        found = max(numbers)
        turn = numbers.index(found)
        self.turns.append(turn)
        # Of equal ones the first one is taken, so those ahead of it must be less.
        for number in numbers[:turn]:
            self.tests.append(found - number - 1)
        for number in numbers[turn + 1:]:
            self.tests.append(found - number)
        return found

    def reaches(self, number, bound):
        is_there = number >= bound
        self.turns.append(1 if is_there else 0)
        self.tests.append(number - bound if is_there else bound - number - 1)
        return is_there

    def repeats(self, each, bound, most):
        found = repeats_for(each, bound, most)
        self.turns.append(found)
        if found > 0:
            self.tests.append(bound - (found - 1) * each - 1)
        if each > 0 and found < most:
            self.tests.append(found * each - bound)
        return found
