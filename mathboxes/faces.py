"""What can stand in fonts: the checks of families, faces, glyphs and numbers."""

from mathboxes.errors import InvalidArgument, InvalidFont
from mathboxes.kinds import MOST_FAMILIES, SIZES, is_amount, is_name, is_row, is_signed, is_size, is_word

NUMBER_WORDS = (
    "xheight", "quad", "up1", "up2", "up3", "down1", "down2", "sup1", "sup2", "sup3", "sub1", "sub2",
    "supdrop", "subdrop", "delim1", "delim2", "axis", "rule", "gap1", "gap2", "gap3", "gap4", "gap5",
)
SETTING_WORDS = (
    "scriptspace", "factor", "short", "empty", "thin", "medium", "thick", "baseline", "apart", "column", "indent",
)
MOST_GLYPHS = 200
MOST_FACTOR = 1000


def check_families(families):
    if not isinstance(families, list) or not 1 <= len(families) <= MOST_FAMILIES:
        raise InvalidFont("families", ())
    for index, family in enumerate(families):
        check_family(family, index)


def check_family(family, index):
    if not is_row(family, SIZES):
        raise InvalidFont("families", (index,))
    for size, face in enumerate(family):
        check_face(face, (index, size))


def check_face(face, at):
    if not is_face_outside(face):
        raise InvalidFont("faces", at)
    glyphs, pairs, _ = face
    check_glyphs(glyphs, at)
    if not all([is_pair(pair, pairs[pair], glyphs) for pair in pairs]):
        raise InvalidFont("pairs", at)


def is_face_outside(face):
    """Whether a face is right without regard to its single glyphs and pairs."""
    if not is_row(face, 3):
        return False
    glyphs, pairs, spaced = face
    if not (isinstance(glyphs, dict) and isinstance(pairs, dict) and isinstance(spaced, bool)):
        return False
    return len(glyphs) <= MOST_GLYPHS and all([is_name(name) for name in glyphs])


def check_glyphs(glyphs, at):
    wrong = [name for name in glyphs if not is_glyph(glyphs[name], glyphs)]
    if not wrong:
        wrong = names_that_come_back(glyphs)
    if wrong:
        raise InvalidFont("glyphs", (*at, min(wrong)))


def is_glyph(value, glyphs):
    if not isinstance(value, tuple) or len(value) != 6:
        return False
    width, height, depth, slant, later, parts = value
    if not (is_amount(width) and is_amount(height) and is_amount(depth) and is_amount(slant)):
        return False
    if later is None:
        return parts is None or is_parts(parts, glyphs)
    return parts is None and is_glyph_name(later, glyphs)


def is_parts(value, glyphs):
    if not is_row(value, 4):
        return False
    # The last one is repeated, and is always there.
    return is_glyph_name(value[3], glyphs) and all([
        name is None or is_glyph_name(name, glyphs) for name in value[:3]
    ])


def is_glyph_name(value, glyphs):
    return is_word(value, glyphs)


def names_that_come_back(glyphs):
    """The names of the glyphs whose next ones, one after another, meet one of them again."""
    linked = [name for name in glyphs if glyphs[name][4] is not None]
    ending = {}
    for name in linked:
        met = {}
        at = name
        # What is known to end needs no second look: so a long chain is gone through once.
        while at is not None and at not in ending and at not in met:
            met[at] = True
            at = glyphs[at][4]
        if at is None or at in ending:
            ending.update(met)
    return [name for name in linked if name not in ending]


def is_pair(pair, deed, glyphs):
    if not (is_row(pair, 2) and is_glyph_name(pair[0], glyphs) and is_glyph_name(pair[1], glyphs)):
        return False
    if not is_row(deed, 2):
        return False
    if is_word(deed[0], ("kern",)):
        return is_signed(deed[1])
    return is_word(deed[0], ("join",)) and is_glyph_name(deed[1], glyphs)


def check_numbers(numbers):
    if not is_row(numbers, SIZES):
        raise InvalidFont("numbers", ())
    for size, table in enumerate(numbers):
        check_table(table, NUMBER_WORDS, "numbers", (size,))


def check_settings(settings):
    check_table(settings, SETTING_WORDS, "settings", ())


def check_table(table, words, part, at):
    if not isinstance(table, dict) or len(table) != len(words):
        raise InvalidFont(part, at)
    for word in words:
        if word not in table or not is_number_for(word, table[word]):
            raise InvalidFont(part, (*at, word))


def is_number_for(word, value):
    """Whether a value can be the number of a word."""
    return is_amount(value) and (word != "factor" or value <= MOST_FACTOR)


def check_place(word, size):
    """Raise unless there is a number at such a word and size."""
    if is_word(word, SETTING_WORDS):
        if size is not None:
            raise InvalidArgument("size")
    elif not is_word(word, NUMBER_WORDS):
        raise InvalidArgument("word")
    elif not is_size(size):
        raise InvalidArgument("size")
