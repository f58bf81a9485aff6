"""Fonts: the glyphs and the numbers by which formulas become boxes."""

from mathboxes.errors import InvalidArgument, InvalidFont, InvalidNumber, NoGlyph
from mathboxes.faces import SETTING_WORDS
from mathboxes.faces import check_families, check_numbers, check_place, check_settings, is_number_for
from mathboxes.kinds import SIZES, is_integer, is_name, is_size
from mathboxes.measures import repeats_for


class Kept:
    """What fonts have; it was checked and is never changed, so that several fonts may have it in common."""

    def __init__(self, families, numbers, settings, skew):
        self.families = families
        self.numbers = numbers
        self.settings = settings
        self.skew = skew


class Fonts:
    """Families of faces with their numbers and settings; they never change."""

    def __init__(self, families, numbers, settings, *, skew=None):
        # The package itself hands over what other fonts have: that needs no second check.
        if isinstance(families, Kept):
            self.kept = families
        else:
            check_families(families)
            check_numbers(numbers)
            check_settings(settings)
            if skew is not None and not is_name(skew):
                raise InvalidFont("skew", ())
            faces = [copied_family(family) for family in families]
            self.kept = Kept(faces, [dict(table) for table in numbers], dict(settings), skew)
        self._families = self.kept.families
        self._numbers = self.kept.numbers
        self._settings = self.kept.settings
        self._skew = self.kept.skew
        # Whether formulas that were laid out are remembered; there are other fonts, which do so.
        self.remembers = False

    def __eq__(self, other):
        return (
            isinstance(other, Fonts) and self._families == other._families and self._numbers == other._numbers
            and self._settings == other._settings and self._skew == other._skew
        )

    def family_count(self):
        return len(self._families)

    def glyph(self, family, size, name):
        if not (type(family) == int or is_integer(family)) or not 0 <= family < len(self._families):
            raise InvalidArgument("family")
        if not (type(size) == int and 0 <= size < SIZES or is_size(size)):
            raise InvalidArgument("size")
        if not is_name(name):
            raise InvalidArgument("name")
        glyphs = self._families[family][size][0]
        if name not in glyphs:
            raise NoGlyph(family, name)
        return glyphs[name]

    def chain(self, family, size, name):
        """The names of a glyph, of its next one, and so on."""
        later = self.glyph(family, size, name)[4]
        names = [name]
        while later is not None:
            names.append(later)
            later = self.glyph(family, size, later)[4]
        return names

    # What stands from here to number_at serves the package itself: it takes what was checked before.

    def glyph_if_any(self, family, size, name):
        """A glyph, or None if the family is not there or its face has no such glyph."""
        if family >= len(self._families):
            return None
        return self._families[family][size][0].get(name)

    def pair_if_any(self, family, size, first, second):
        """What becomes of two glyphs that stand side by side, or None."""
        if family >= len(self._families):
            return None
        return self._families[family][size][1].get((first, second))

    def is_spaced(self, family, size):
        """Whether a face is spaced; the family must be there."""
        return self._families[family][size][2]

    def skew_of(self, family, size, name):
        """The kern of the pair of a glyph and of the skew name, or 0; the family must be there."""
        deed = self._families[family][size][1].get((name, self._skew))
        return deed[1] if deed is not None and deed[0] == "kern" else 0

    def number_of(self, word, size):
        return self._numbers[size][word]

    def setting_of(self, word):
        return self._settings[word]

    # All that the sizes of boxes decide is decided by the next three, so that other fonts may note it.

    def greatest(self, numbers):
        return max(numbers)

    def reaches(self, number, bound):
        return number >= bound

    def repeats(self, each, bound, most):
        return repeats_for(each, bound, most)

    def number_at(self, word, size):
        check_place(word, size)
        if word in SETTING_WORDS:
            return self._settings[word]
        return self._numbers[size][word]

    def changed(self, word, size, number):
        """Fonts with another number at one place."""
        check_place(word, size)
        if not is_number_for(word, number):
            raise InvalidNumber(number)
        return self.with_number(word, size, number)

    def with_number(self, word, size, number):
        """As changed, without its checks."""
        numbers, settings = self._numbers, self._settings
        if size is None:
            settings = {**settings, word: number}
        else:
            numbers = list(numbers)
            numbers[size] = {**numbers[size], word: number}
        return Fonts(Kept(self._families, numbers, settings, self._skew), None, None)


def copied_family(family):
    return tuple([copied_face(face) for face in family])


def copied_face(face):
    glyphs, pairs, spaced = face
    return dict(glyphs), {pair: pairs[pair] for pair in pairs}, spaced
