"""What cannot be fonts (points 5 to 8)."""

import unittest

from mathboxes.errors import InvalidFont
from mathboxes.fonts import Fonts
from tests.samples import (
    A, LIMIT, NUMBER_WORDS, SETTING_WORDS, Case, a_face, a_family, fonts_of, odd_values, some_fonts, some_numbers,
    some_settings,
)

BROKEN = (None, None, None)


def plain(later=None, parts=None):
    return (1, 2, 3, 4, later, parts)


class Wrong(Case):

    def wrong(self, part, at, families, numbers=None, settings=None, skew="not a name"):
        """By default all that is looked at later is wrong, too."""
        self.assertTells(InvalidFont, {"part": part, "at": at}, Fonts, families, numbers, settings, skew=skew)

    def wrong_face(self, part, at, face):
        """The same wrong face at several places, with other wrong ones behind it."""
        good = a_face()
        self.wrong(part, (0, 0, *at), [(face, None, None), None])
        self.wrong(part, (0, 2, *at), [(good, good, face), None])
        self.wrong(part, (2, 1, *at), [a_family(), a_family(), (good, face, None), None])


class Families(Wrong):

    def test_no_list_of_one_to_four(self):
        self.wrong("families", (), [])
        self.wrong("families", (), [a_family()] * 5)
        self.wrong("families", (), (a_family(),))
        for value in [None, 0, 1, "a"] + odd_values():
            if value != [1]:
                self.wrong("families", (), value)

    def test_no_tuple_of_three(self):
        face = a_face()
        for family in [None, 0, (), (face, face), (face,) * 4, [face, face, face], "abc"] + odd_values():
            self.wrong("families", (0,), [family, None])
            self.wrong("families", (1,), [a_family(), family, (BROKEN,) * 3])
            self.wrong("families", (3,), [a_family(), a_family(), a_family(), family])

    def test_a_face_comes_ahead_of_the_next_family(self):
        self.wrong("faces", (0, 2), [(a_face(), a_face(), 5), 5])


class Faces(Wrong):

    def test_no_tuple_of_two_dicts_and_a_bool(self):
        faces = [
            None, 0, (), ({}, {}), ({}, {}, False, False), [{}, {}, False], ([], {}, False), ({}, [], False),
            (None, {}, True), ({}, None, True), ({}, {}, None), ({}, {}, 0), ({}, {}, 1), ({}, {}, ""), ({}, {}, {}),
        ]
        for face in faces + odd_values():
            self.wrong_face("faces", (), face)

    def test_more_than_two_hundred_glyphs(self):
        names = [one + other for one in "abcdefghij" for other in "abcdefghijklmnopqrst"]
        self.assertEqual(fonts_of({name: A for name in names}).family_count(), 1)
        self.wrong_face("faces", (), ({name: A for name in names + ["z"]}, {}, False))

    def test_a_key_that_is_no_name(self):
        for key in ["", "A", "aB", "abcdefghi", "a b", "a1", "\u00e4", "a\n", 0, 1, None, True, (), ("a",), b"a", 1.5]:
            # Glyphs and pairs are looked at later.
            self.wrong_face("faces", (), ({"a": None, key: A}, {1: 2}, False))
            self.wrong_face("faces", (), ({key: A, "a": A}, {}, True))


class Glyphs(Wrong):

    def wrong_glyph(self, value):
        glyphs = {"y": None, "c": A, "b": value, "a": A}
        self.wrong_face("glyphs", ("b",), (glyphs, {1: 2}, False))

    def test_no_tuple_of_six(self):
        for value in [None, 0, (), A[:5], (*A, None), list(A), "abcdef"] + odd_values():
            self.wrong_glyph(value)

    def test_numbers(self):
        for at in range(4):
            for number in [-1, LIMIT + 1, None, "a"] + odd_values():
                self.wrong_glyph((*A[:at], number, *A[at + 1:]))

    def test_next(self):
        for later in [0, 1, "z", "A", "", "abcdefghi", ("c",)] + odd_values():
            self.wrong_glyph(plain(later))

    def test_parts(self):
        rows = [(), ("a", "b", "c"), ("a", "b", "c", "a", "b"), ["a", "b", "c", "a"], (None,) * 4, ("a", "b", "c", None)]
        for parts in rows + [0, "abca"] + odd_values():
            self.wrong_glyph(plain(None, parts))
        for at in range(4):
            for name in ["z", 0, ""] + odd_values():
                parts = ["a", "b", "c", "a"]
                parts[at] = name
                self.wrong_glyph(plain(None, tuple(parts)))

    def test_next_and_parts(self):
        self.wrong_glyph(plain("c", (None, None, None, "a")))
        self.wrong_glyph(plain("c", False))
        self.wrong_glyph(plain("c", ()))

    def test_the_first_name_ascending(self):
        glyphs = {"z": None, "ab": None, "b": None, "aa": A}
        self.wrong_face("glyphs", ("ab",), (glyphs, {1: 2}, False))

    def test_next_ones_that_come_back(self):
        circle = {"d": plain("c"), "c": plain("e"), "e": plain("d"), "a": plain("b"), "b": plain(), "z": A}
        self.wrong_face("glyphs", ("c",), (circle, {1: 2}, False))
        self.wrong_face("glyphs", ("a",), ({"a": plain("a")}, {1: 2}, False))
        self.wrong_face("glyphs", ("b",), ({"c": plain("b"), "b": plain("c"), "a": plain()}, {}, False))

    def test_next_ones_that_come_back_to_one_of_them(self):
        glyphs = {"a": plain("c"), "b": plain("d"), "c": plain(), "d": plain("e"), "e": plain("d")}
        self.wrong_face("glyphs", ("b",), (glyphs, {1: 2}, False))

    def test_several_circles_and_ways_into_them(self):
        glyphs = {
            "x": plain("y"), "y": plain("x"), "f": plain("e"), "e": plain("d"), "d": plain("e"), "c": plain("d"),
            "b": plain("a"), "a": plain(),
        }
        self.wrong_face("glyphs", ("c",), (glyphs, {}, False))
        del glyphs["c"]
        self.wrong_face("glyphs", ("d",), (glyphs, {}, False))
        self.wrong_face("glyphs", ("x",), ({"x": plain("y"), "y": plain("x"), "b": plain("a"), "a": plain()}, {}, False))
        names = sorted(one + other for one in "abcdefghij" for other in "abcdefghijklmnopqrst")
        circle = {name: plain(later) for name, later in zip(names, names[1:] + names[150:151])}
        self.wrong_face("glyphs", ("aa",), (circle, {}, False))
        circle = {name: plain(later) for name, later in zip(names, [None] + names[:-1])}
        circle["ab"] = plain("ad")
        self.wrong_face("glyphs", ("ab",), (circle, {}, False))

    def test_wrong_by_itself_comes_first(self):
        self.wrong_face("glyphs", ("z",), ({"a": plain("a"), "z": None}, {1: 2}, False))


class Pairs(Wrong):

    def wrong_pair(self, key, deed):
        pairs = {("a", "b"): ("kern", 3), key: deed, ("b", "a"): ("join", "a")}
        self.wrong_face("pairs", (), ({"a": A, "b": A}, pairs, False))

    def test_keys(self):
        keys = [
            None, 0, "ab", (), ("a",), ("a", "a", "a"), ("a", "z"), ("z", "a"), ("a", None), ("A", "a"), ("a", True),
            (0, "a"), (("a", "b"), "a"), frozenset(["a", "b"]), b"ab", True, ("a", ("b",)),
        ]
        for key in keys:
            self.wrong_pair(key, ("kern", 3))

    def test_deeds(self):
        deeds = [
            None, 0, (), ("kern",), ("kern", 1, 2), ["kern", 1], ("join",), ("join", "a", "b"), ("join", 1),
            ("kern", "a"), ("join", "z"), ("join", None), ("kern", None), ("kern", LIMIT + 1), ("kern", -LIMIT - 1),
            ("Kern", 1), ("", 1), (None, 1), (0, 1), ("kerns", 1), ("a", "a"),
        ]
        for deed in deeds + odd_values():
            self.wrong_pair(("a", "a"), deed)
        for value in odd_values():
            self.wrong_pair(("a", "a"), (value, 1))
            self.wrong_pair(("a", "a"), (value, "a"))
            self.wrong_pair(("a", "a"), ("kern", value))
            self.wrong_pair(("a", "a"), ("join", value))


class Numbers(Wrong):

    def wrong_numbers(self, at, numbers):
        self.wrong("numbers", at, [a_family()], numbers)

    def test_no_tuple_of_three(self):
        tables = some_numbers()
        for numbers in [None, 0, (), tables[:2], (*tables, tables[0]), list(tables), tables[0]] + odd_values():
            self.wrong_numbers((), numbers)

    def test_no_dict_with_as_many_keys(self):
        for size in range(3):
            good = some_numbers()[0]
            more = {**good, "skew": 3}
            fewer = dict(list(good.items())[1:])
            for table in [None, (), [], list(good), more, fewer, 23, "a" * 23, list(range(23))] + odd_values():
                numbers = [None] * 3
                numbers[:size] = [good] * size
                numbers[size] = table
                self.wrong_numbers((size,), tuple(numbers))

    def test_words(self):
        for size in range(3):
            for at, word in enumerate(NUMBER_WORDS):
                for number in [-1, LIMIT + 1, None, "a"] + odd_values():
                    numbers = [some_numbers()[0] for _ in range(size)] + [some_numbers()[0]] + [None] * (2 - size)
                    for later in NUMBER_WORDS[at + 1:]:
                        numbers[size][later] = -1
                    numbers[size][word] = number
                    self.wrong_numbers((size, word), tuple(numbers))

    def test_a_missing_word(self):
        for word in NUMBER_WORDS:
            table = some_numbers()[0]
            del table[word]
            table[("other",)] = 0
            self.wrong_numbers((0, word), (table, None, None))

    def test_least_and_greatest(self):
        for number in (0, LIMIT):
            table = dict.fromkeys(NUMBER_WORDS, number)
            fonts = Fonts([a_family()], (table, table, table), some_settings())
            self.assertEqual(fonts.number_at("gap5", 2), number)


class Settings(Wrong):

    def wrong_settings(self, at, settings):
        self.wrong("settings", at, [a_family()], some_numbers(), settings)

    def test_no_dict_with_as_many_keys(self):
        good = some_settings()
        more = {**good, "axis": 3}
        fewer = dict(list(good.items())[1:])
        for settings in [None, (), list(good), more, fewer, 11, "a" * 11] + odd_values():
            self.wrong_settings((), settings)

    def test_words(self):
        for at, word in enumerate(SETTING_WORDS):
            most = 1000 if word == "factor" else LIMIT
            for number in [-1, most + 1, None, "a"] + odd_values():
                settings = some_settings()
                for later in SETTING_WORDS[at + 1:]:
                    settings[later] = -1
                settings[word] = number
                self.wrong_settings((word,), settings)
            settings = some_settings()
            del settings[word]
            settings["axis"] = 0
            self.wrong_settings((word,), settings)

    def test_least_and_greatest(self):
        for number in (0, LIMIT):
            settings = {**dict.fromkeys(SETTING_WORDS, number), "factor": min(number, 1000)}
            fonts = Fonts([a_family()], some_numbers(), settings)
            self.assertEqual(fonts.number_at("indent", None), number)


class Skew(Wrong):

    def test_skew(self):
        for skew in ["A", "abcdefghi", 0, "a1"] + odd_values():
            self.wrong("skew", (), [a_family()], some_numbers(), some_settings(), skew)

    def test_a_name_or_none(self):
        self.assertEqual(some_fonts(), some_fonts(skew=None))
        self.assertNotEqual(some_fonts(skew="abcdefgh"), some_fonts(skew="z"))

    def test_by_keyword_alone(self):
        with self.assertRaises(TypeError):
            Fonts([a_family()], some_numbers(), some_settings(), "a")


class Nothing(Case):

    def test_nothing_is_changed_by_an_error(self):
        face = ({"a": plain("a")}, {}, False)
        families = [(face, face, face)]
        self.assertTells(InvalidFont, {"part": "glyphs", "at": (0, 0, "a")}, Fonts, families, None, None)
        self.assertEqual(families, [(({"a": plain("a")}, {}, False),) * 3])


if __name__ == "__main__":
    unittest.main()
