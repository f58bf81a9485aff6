"""What fonts tell (points 5, 6, 7, 9, 10 and 11)."""

import unittest

from mathboxes.errors import InvalidArgument, InvalidNumber, NoGlyph
from mathboxes.fonts import Fonts
from tests.samples import (
    A, LIMIT, NUMBER_WORDS, PLUS, SETTING_WORDS, Case, a_face, a_family, fonts_of, lists_and_dicts, odd_values,
    some_fonts, some_numbers, some_settings,
)


class Families(Case):

    def test_one_and_four(self):
        for many in (1, 2, 3, 4):
            self.assertEqual(some_fonts([a_family()] * many).family_count(), many)

    def test_glyph(self):
        fonts = some_fonts()
        self.assertEqual(fonts.glyph(0, 0, "a"), A)
        self.assertEqual(fonts.glyph(family=0, size=2, name="plus"), PLUS)

    def test_sizes_and_families_may_have_different_glyphs(self):
        faces = [({name: (at, 0, 0, 0, None, None)}, {}, False) for at, name in enumerate("abcdef")]
        fonts = some_fonts([tuple(faces[:3]), tuple(faces[3:])])
        for at, name in enumerate("abcdef"):
            self.assertEqual(fonts.glyph(at // 3, at % 3, name), (at, 0, 0, 0, None, None))
        self.assertTells(NoGlyph, {"family": 1, "name": "d"}, fonts.glyph, 1, 1, "d")
        self.assertTells(NoGlyph, {"family": 0, "name": "d"}, fonts.chain, 0, 0, "d")

    def test_least_and_greatest_glyphs(self):
        glyphs = {"a": (0, 0, 0, 0, None, None), "abcdefgh": (LIMIT, LIMIT, LIMIT, LIMIT, None, None)}
        fonts = fonts_of(glyphs)
        for name in glyphs:
            self.assertEqual(fonts.glyph(0, 1, name), glyphs[name])

    def test_glyphs_may_be_none_or_two_hundred(self):
        self.assertEqual(fonts_of({}).family_count(), 1)
        names = [one + other for one in "abcdefghij" for other in "abcdefghijklmnopqrst"]
        fonts = fonts_of({name: A for name in names})
        self.assertEqual([fonts.glyph(0, 0, name) for name in names], [A] * 200)

    def test_parts_may_be_none_but_the_last_and_name_the_glyph_itself(self):
        glyphs = {
            "a": (1, 2, 3, 4, None, (None, None, None, "a")),
            "b": (1, 2, 3, 4, None, ("a", "b", "c", "a")),
            "c": (1, 2, 3, 4, None, None),
        }
        self.assertEqual(fonts_of(glyphs).glyph(0, 2, "b"), glyphs["b"])

    def test_pairs(self):
        glyphs = {"a": A, "b": A}
        pairs = {
            ("a", "b"): ("kern", LIMIT), ("b", "a"): ("kern", -LIMIT), ("a", "a"): ("kern", 0),
            ("b", "b"): ("join", "b"),
        }
        self.assertNotEqual(fonts_of(glyphs, pairs), fonts_of(glyphs))


class Chains(Case):

    def setUp(self):
        self.fonts = fonts_of({
            "a": (1, 1, 1, 1, "c", None), "b": (1, 1, 1, 1, None, None), "c": (1, 1, 1, 1, "b", None),
            "d": (1, 1, 1, 1, "c", None), "e": (1, 1, 1, 1, None, (None, None, None, "a")),
        })

    def test_chain(self):
        chains = [self.fonts.chain(0, 1, name) for name in "abcde"]
        self.assertEqual(chains, [["a", "c", "b"], ["b"], ["c", "b"], ["d", "c", "b"], ["e"]])

    def test_two_hundred_in_a_chain(self):
        names = sorted(one + other for one in "abcdefghij" for other in "abcdefghijklmnopqrst")
        later = names[1:] + [None]
        fonts = fonts_of({name: (1, 1, 1, 1, after, None) for name, after in zip(names, later)})
        self.assertEqual(fonts.chain(family=0, size=0, name="aa"), names)

    def test_chain_is_new(self):
        self.fonts.chain(0, 1, "a").append("z")
        self.assertEqual(self.fonts.chain(0, 1, "a"), ["a", "c", "b"])


class WrongPlaces(Case):

    def setUp(self):
        self.fonts = some_fonts([a_family(), a_family()])

    def functions(self):
        return (self.fonts.glyph, self.fonts.chain)

    def test_family(self):
        for function in self.functions():
            for family in [-1, 2, 4, LIMIT, None, "a", ()] + odd_values():
                self.assertTells(InvalidArgument, {"part": "family"}, function, family, 3, 0)

    def test_size(self):
        for function in self.functions():
            for size in [-1, 3, None, "a"] + odd_values():
                self.assertTells(InvalidArgument, {"part": "size"}, function, 1, size, 0)

    def test_name(self):
        for function in self.functions():
            for name in [None, 0, "A", "a1", "aé", "abcdefghi", "a\n", "ä"] + odd_values():
                self.assertTells(InvalidArgument, {"part": "name"}, function, 1, 2, name)

    def test_no_glyph(self):
        for function in self.functions():
            for name in ("b", "abcdefgh"):
                self.assertTells(NoGlyph, {"family": 1, "name": name}, function, 1, 0, name)


class Numbers(Case):

    def test_number_at(self):
        fonts = some_fonts()
        for size, first in enumerate((100, 200, 300)):
            told = [fonts.number_at(word, size) for word in NUMBER_WORDS]
            self.assertEqual(told, list(range(first, first + 23)))
        self.assertEqual([fonts.number_at(word, None) for word in SETTING_WORDS], list(range(1, 12)))
        self.assertEqual(fonts.number_at(size=2, word="axis"), 316)

    def test_wrong_word(self):
        fonts = some_fonts()
        for word in [None, 0, "skew", "Axis", "axis ", ("axis",)] + odd_values():
            self.assertTells(InvalidArgument, {"part": "word"}, fonts.number_at, word, 9)
            self.assertTells(InvalidArgument, {"part": "word"}, fonts.changed, word, 9, -1)

    def test_wrong_size(self):
        fonts = some_fonts()
        for word in NUMBER_WORDS:
            for size in [None, -1, 3, "0"] + odd_values():
                self.assertTells(InvalidArgument, {"part": "size"}, fonts.number_at, word, size)
                self.assertTells(InvalidArgument, {"part": "size"}, fonts.changed, word, size, -1)
        for word in SETTING_WORDS:
            for size in [0, 1, 2, 3, ""] + odd_values():
                self.assertTells(InvalidArgument, {"part": "size"}, fonts.number_at, word, size)
                self.assertTells(InvalidArgument, {"part": "size"}, fonts.changed, word, size, -1)


class Changed(Case):

    def all_places(self):
        places = [(word, size) for size in (0, 1, 2) for word in NUMBER_WORDS]
        return places + [(word, None) for word in SETTING_WORDS]

    def told(self, fonts):
        return [fonts.number_at(word, size) for word, size in self.all_places()]

    def test_one_number_alone_changes(self):
        fonts = some_fonts(skew="a")
        before = self.told(fonts)
        for at, (word, size) in enumerate(self.all_places()):
            other = fonts.changed(word, size, 777)
            self.assertIs(other.__class__, Fonts)
            self.assertEqual(self.told(other), before[:at] + [777] + before[at + 1:])
            self.assertEqual(self.told(fonts), before)
            self.assertNotEqual(other, fonts)
            self.assertEqual(other.changed(word, size, before[at]), fonts)

    def test_the_rest_stays(self):
        fonts = some_fonts([a_family(), a_family()], skew="a").changed("thin", None, 0)
        self.assertEqual(fonts.family_count(), 2)
        self.assertEqual(fonts.glyph(1, 2, "plus"), PLUS)
        self.assertNotEqual(fonts, some_fonts([a_family(), a_family()], skew="b").changed("thin", None, 0))
        self.assertEqual(fonts.changed(number=6, size=None, word="thin").changed("thin", None, 0), fonts)

    def test_least_and_greatest_numbers(self):
        fonts = some_fonts()
        for word, size in self.all_places():
            most = 1000 if word == "factor" else LIMIT
            for number in (0, most):
                self.assertEqual(fonts.changed(word, size, number).number_at(word, size), number)
            for number in [-1, most + 1, None, "1"] + odd_values():
                self.assertTells(InvalidNumber, {"number": number}, fonts.changed, word, size, number)

    def test_sizes_do_not_share_their_numbers(self):
        table = some_numbers()[0]
        fonts = Fonts([a_family()], (table, table, table), some_settings()).changed("axis", 1, 7)
        self.assertEqual([fonts.number_at("axis", size) for size in (0, 1, 2)], [116, 7, 116])


class Equality(Case):

    def test_equal(self):
        self.assertTrue(some_fonts(skew="a") == some_fonts(skew="a"))
        self.assertFalse(some_fonts(skew="a") != some_fonts(skew="a"))

    def test_the_order_of_keys_does_not_matter(self):
        glyphs, pairs, spaced = a_face()
        face = (dict(reversed(glyphs.items())), dict(reversed(pairs.items())), spaced)
        numbers = tuple(dict(reversed(table.items())) for table in some_numbers())
        settings = dict(reversed(some_settings().items()))
        self.assertEqual(Fonts([(face, face, face)], numbers, settings), some_fonts())

    def test_unequal(self):
        fonts = some_fonts()
        glyphs, pairs, _ = a_face()
        for face in (({**glyphs, "b": A}, pairs, False), (glyphs, {}, False), (glyphs, pairs, True)):
            self.assertFalse(fonts == some_fonts([(a_face(), a_face(), face)]))
        self.assertFalse(fonts == some_fonts([a_family(), a_family()]))
        self.assertFalse(fonts == fonts.changed("gap5", 2, 0))
        self.assertFalse(fonts == fonts.changed("indent", None, 0))
        self.assertFalse(fonts == some_fonts(skew="a"))
        self.assertTrue(fonts != some_fonts(skew="a"))

    def test_equal_to_nothing_else(self):
        for value in [None, 0, "a"] + odd_values()[:-1]:
            self.assertFalse(some_fonts() == value)
            self.assertTrue(some_fonts() != value)


class Kept(Case):

    def test_nothing_is_changed(self):
        family, numbers, settings = a_family(), some_numbers(), some_settings()
        families = [family, a_family()]
        Fonts(families, numbers, settings, skew="a").changed("axis", 0, 5).changed("thin", None, 5)
        self.assertEqual((families, numbers, settings), ([a_family()] * 2, some_numbers(), some_settings()))

    def test_nothing_is_kept(self):
        families, numbers, settings = [a_family()], some_numbers(), some_settings()
        fonts = Fonts(families, numbers, settings)
        later = fonts.changed("quad", 1, 8)
        for glyphs, pairs, _ in families[0]:
            glyphs.clear()
            pairs.clear()
        families.clear()
        for table in (*numbers, settings):
            table.clear()
        self.assertEqual(fonts, some_fonts())
        self.assertEqual(later, some_fonts().changed("quad", 1, 8))
        self.assertEqual(fonts.glyph(0, 0, "a"), A)
        self.assertEqual(fonts.number_at("indent", None), 11)

    def test_no_list_and_no_dict_is_the_same_object(self):
        families, numbers, settings = [a_family()], some_numbers(), some_settings()
        fonts = Fonts(families, numbers, settings)
        passed, held = (families, numbers, settings), tuple(vars(fonts).values())
        self.assertFalse(set(lists_and_dicts(passed)) & set(lists_and_dicts(held)))


if __name__ == "__main__":
    unittest.main()
