"""What boxes do (points 12 to 16)."""

import unittest

from mathboxes.boxes import Box, beside, check_box, extent, first_unlike, ink, moved, same_ink, together, widened
from mathboxes.errors import InvalidArgument, InvalidBox, NoGlyph
from tests.samples import LIMIT, Case, a_family, fonts_of, glyph, odd_values, rule, some_fonts, wrong_boxes


class Making(Case):

    def test_attributes(self):
        box = Box(3, -2, 1, (rule(), glyph()))
        self.assertEqual((box.width, box.height, box.depth, box.marks), (3, -2, 1, [rule(), glyph()]))
        self.assertEqual(Box(3, 2, 1).marks, [])
        self.assertEqual(Box(width=3, height=2, depth=1, marks=[rule()]).marks, [rule()])

    def test_marks_are_a_list_of_its_own(self):
        marks = [rule()]
        one, other = Box(1, 2, 3, marks), Box(1, 2, 3)
        one.marks.append(glyph())
        other.marks.append(glyph())
        marks.append(rule(7))
        self.assertEqual(marks, [rule(), rule(7)])
        self.assertEqual(one.marks, [rule(), glyph()])
        self.assertEqual(Box(1, 2, 3).marks, [])

    def test_nothing_is_checked(self):
        for value in [None, LIMIT + 1] + odd_values():
            box = Box(value, value, value, [value])
            self.assertIs(box.depth, value)
            self.assertIs(box.marks[0], value)
            Box(1, 2, 3, value)

    def test_equal(self):
        box = Box(3, 2, 1, [rule()])
        self.assertTrue(box == Box(3, 2, 1, (rule(),)))
        self.assertFalse(box != Box(3, 2, 1, (rule(),)))
        others = [
            Box(4, 2, 1, [rule()]), Box(3, 3, 1, [rule()]), Box(3, 2, 2, [rule()]), Box(3, 2, 1),
            Box(3, 2, 1, [rule(), rule()]), Box(3, 2, 1, [rule(path=(1,))]),
        ]
        for other in others:
            self.assertFalse(box == other)
            self.assertTrue(box != other)
        self.assertFalse(Box(3, 2, 1, [rule(), glyph()]) == Box(3, 2, 1, [glyph(), rule()]))

    def test_equal_to_nothing_else(self):
        for value in [None, 0, (3, 2, 1, [])] + odd_values():
            self.assertFalse(Box(3, 2, 1) == value)
            self.assertTrue(Box(3, 2, 1) != value)


class Checking(Case):

    def test_right_ones(self):
        self.assertIsNone(check_box(Box(0, 0, 0)))
        for number in (LIMIT, -LIMIT):
            marks = [rule(number, number, number, number, ()), glyph(number, number)]
            self.assertIsNone(check_box(Box(number, number, number, marks)))
        marks = [glyph(family=3, size=2, name="abcdefgh", path=(0, 4, LIMIT ** 2)), glyph(family=0, size=0, name="z")]
        self.assertIsNone(check_box(box=Box(1, 2, 3, marks)))

    def test_wrong_ones(self):
        for part, box in wrong_boxes():
            self.assertTells(InvalidBox, {"part": part}, check_box, box)

    def test_no_list_of_marks(self):
        box = Box(1, 2, 3)
        for value in [None, (), 0, "a"] + odd_values():
            if value != []:
                box.marks = value
                self.assertTells(InvalidBox, {"part": "marks"}, check_box, box)

    def wrong_mark(self, mark):
        self.assertTells(InvalidBox, {"part": "marks"}, check_box, Box(1, 2, 3, [rule(), mark, glyph()]))

    def test_marks(self):
        good = rule()[2]
        for mark in [(), (0, 0), (0, 0, good, 0), [0, 0, good], (0, 0, None), (0, 0, ()), (0, 0, list(good))]:
            self.wrong_mark(mark)
        for value in [LIMIT + 1, -LIMIT - 1, None] + odd_values():
            self.wrong_mark((value, 0, good))
            self.wrong_mark((0, value, good))
            self.wrong_mark((0, 0, value))

    def test_rules(self):
        for inner in [("rule", (), 1), ("rule", (), 1, 1, 1), ("Rule", (), 1, 1), ("glyph", (), 1, 1), (None, (), 1, 1)]:
            self.wrong_mark((0, 0, inner))
        for value in [LIMIT + 1, -LIMIT - 1, None] + odd_values():
            self.wrong_mark(rule(width=value))
            self.wrong_mark(rule(height=value))
            self.wrong_mark((0, 0, (value, (), 1, 1)))

    def test_glyphs(self):
        inners = [("glyph", (), 0, 0), ("glyph", (), 0, 0, "a", 0), ("rule", (), 0, 0, "a"), ("", (), 0, 0, "a")]
        for inner in inners:
            self.wrong_mark((0, 0, inner))
        for value in [-1, 4, None] + odd_values():
            self.wrong_mark(glyph(family=value))
        for value in [-1, 3, None] + odd_values():
            self.wrong_mark(glyph(size=value))
        for value in ["A", "abcdefghi", None, 0] + odd_values():
            self.wrong_mark(glyph(name=value))

    def test_paths(self):
        for path in [[], [0], None, 0, "", "0", (-1,), (0, -1), (True,), (0, False), ("0",), (None,), ((0,),), {}]:
            self.wrong_mark(rule(path=path))
            self.wrong_mark(glyph(path=path))


class FunctionsOfBoxes(Case):
    """What all functions that are handed boxes do with wrong ones."""

    def test_one_box(self):
        for part, box in wrong_boxes():
            self.assertTells(InvalidBox, {"part": part}, moved, box, None, None)
            self.assertTells(InvalidBox, {"part": part}, widened, box, None)
            self.assertTells(InvalidBox, {"part": part}, ink, box)
            self.assertTells(InvalidBox, {"part": part}, extent, some_fonts(), box)

    def test_two_boxes(self):
        for part, box in wrong_boxes():
            for function in (same_ink, first_unlike):
                self.assertTells(InvalidBox, {"part": part}, function, box, None)
                self.assertTells(InvalidBox, {"part": part}, function, Box(9, 9, 9), box)

    def test_lists_of_boxes(self):
        good = Box(1, 2, 3)
        for part, box in wrong_boxes():
            self.assertTells(InvalidBox, {"part": part}, beside, [box, None])
            self.assertTells(InvalidBox, {"part": part}, beside, (good, good, box))
            self.assertTells(InvalidBox, {"part": part}, together, 0, 0, 0, [(box, None, None), (None, 0, 0)])
            self.assertTells(InvalidBox, {"part": part}, together, 0, 0, 0, ((good, 0, 0), (box, 0, 0)))


class Beside(Case):

    def test_none(self):
        self.assertEqual(beside([]), Box(0, 0, 0))
        self.assertEqual(beside(()), Box(0, 0, 0))

    def test_sizes(self):
        self.assertEqual(beside([Box(3, 2, 1), Box(4, 5, -6), Box(-2, 0, 3)]), Box(5, 5, 3))
        self.assertEqual(beside([Box(-3, -2, -1)]), Box(-3, 0, 0))
        self.assertEqual(beside(boxes=(Box(1, -2, 4), Box(1, 7, -4))), Box(2, 7, 4))

    def test_marks(self):
        one = Box(10, 0, 0, [glyph(1, 2), rule(3, 4)])
        other = Box(-4, 0, 0, [rule(5, 6)])
        self.assertEqual(beside([one, other, one]).marks, [
            glyph(1, 2), rule(3, 4), rule(15, 6), glyph(7, 2), rule(9, 4),
        ])

    def test_greater_ones_may_come_out(self):
        box = Box(LIMIT, LIMIT, LIMIT, [rule(LIMIT)])
        self.assertEqual(beside([box, box]), Box(2 * LIMIT, LIMIT, LIMIT, [rule(LIMIT), rule(2 * LIMIT)]))

    def test_no_list(self):
        for value in [None, 0, "ab", Box(1, 2, 3)] + odd_values():
            if not isinstance(value, (list, tuple)):
                self.assertTells(InvalidArgument, {"part": "boxes"}, beside, value)

    def test_new(self):
        box = Box(1, 2, 3, [rule()])
        result = beside([box])
        result.marks.clear()
        self.assertEqual(box, Box(1, 2, 3, [rule()]))


class Moved(Case):

    def test_moved(self):
        box = Box(3, 2, 1, [glyph(1, 2), rule(-1, -2)])
        self.assertEqual(moved(box, 10, 20), Box(13, 22, -19, [glyph(11, 22), rule(9, 18)]))
        self.assertEqual(moved(dx=-10, dy=-20, box=box), Box(-7, -18, 21, [glyph(-9, -18), rule(-11, -22)]))
        self.assertEqual(box, Box(3, 2, 1, [glyph(1, 2), rule(-1, -2)]))

    def test_far(self):
        box = Box(LIMIT, LIMIT, -LIMIT, [rule(LIMIT, LIMIT)])
        far = 2 * LIMIT
        self.assertEqual(moved(box, LIMIT, LIMIT), Box(far, far, -far, [rule(far, far)]))
        self.assertEqual(moved(Box(0, 0, 0), -LIMIT, -LIMIT), Box(-LIMIT, -LIMIT, LIMIT))

    def test_wrong(self):
        for value in [LIMIT + 1, -LIMIT - 1, None] + odd_values():
            self.assertTells(InvalidArgument, {"part": "dx"}, moved, Box(1, 2, 3), value, None)
            self.assertTells(InvalidArgument, {"part": "dy"}, moved, Box(1, 2, 3), 0, value)

    def test_new(self):
        box = Box(1, 2, 3, [rule()])
        result = moved(box, 0, 0)
        self.assertEqual(result, box)
        self.assertIsNot(result, box)
        result.marks.append(glyph())
        self.assertEqual(box.marks, [rule()])


class Together(Case):

    def test_none(self):
        self.assertEqual(together(3, 2, 1, []), Box(3, 2, 1))
        self.assertEqual(together(LIMIT, -LIMIT, LIMIT, ()), Box(LIMIT, -LIMIT, LIMIT))

    def test_marks(self):
        one, other = Box(50, 60, 70, [glyph(1, 2), rule(3, 4)]), Box(-5, 0, 0, [rule(5, 6)])
        placed = [(one, 100, 200), (other, 0, 0), (one, -1, -2)]
        expected = Box(3, 2, 1, [glyph(101, 202), rule(103, 204), rule(5, 6), glyph(0, 0), rule(2, 2)])
        self.assertEqual(together(3, 2, 1, placed), expected)
        self.assertEqual(together(placed=tuple(placed), depth=1, height=2, width=3), expected)

    def test_far(self):
        box = Box(0, 0, 0, [rule(LIMIT, -LIMIT)])
        self.assertEqual(together(0, 0, 0, [(box, LIMIT, -LIMIT)]).marks, [rule(2 * LIMIT, -2 * LIMIT)])

    def test_wrong_sizes(self):
        for value in [LIMIT + 1, -LIMIT - 1, None] + odd_values():
            self.assertTells(InvalidArgument, {"part": "width"}, together, value, None, None, None)
            self.assertTells(InvalidArgument, {"part": "height"}, together, 1, value, None, None)
            self.assertTells(InvalidArgument, {"part": "depth"}, together, 1, 2, value, None)

    def test_wrong_placed(self):
        box = Box(1, 2, 3)
        wrong = [None, 0, "ab", box, {}, {(box.width, 0, 0): 1}, [(box, 0)], [(box, 0, 0, 0)], [[box, 0, 0]], ["abc"]]
        wrong = wrong + [[value] for value in [None, (), 0] + odd_values()]
        wrong = wrong + [value for value in odd_values() if value != []]
        for placed in wrong:
            self.assertTells(InvalidArgument, {"part": "placed"}, together, 1, 2, 3, placed)
        self.assertTells(InvalidArgument, {"part": "placed"}, together, 1, 2, 3, [(None, None, None), (box, 0)])

    def test_wrong_places(self):
        box = Box(1, 2, 3)
        for value in [LIMIT + 1, -LIMIT - 1, None] + odd_values():
            for entry in ((box, value, 0), (box, 0, value)):
                for placed in ([entry], ((box, 0, 0), entry), [entry, (None, 0, 0)]):
                    self.assertTells(InvalidArgument, {"part": "placed"}, together, 1, 2, 3, placed)
                self.assertTells(InvalidBox, {"part": "box"}, together, 1, 2, 3, [(None, 0, 0), entry])

    def test_new(self):
        box = Box(1, 2, 3, [rule()])
        placed = [(box, 0, 0)]
        result = together(1, 2, 3, placed)
        result.marks.append(glyph())
        self.assertEqual(placed, [(Box(1, 2, 3, [rule()]), 0, 0)])


class Widened(Case):

    def test_marks_in_the_middle(self):
        box = Box(3, 2, 1, [rule(10, 20)])
        for width, x in ((3, 10), (4, 10), (5, 11), (6, 11), (2, 9), (1, 9), (0, 8), (-1, 8)):
            self.assertEqual(widened(box, width), Box(width, 2, 1, [rule(x, 20)]))
        self.assertEqual(widened(width=8, box=Box(3, -2, 1)), Box(8, -2, 1))
        self.assertEqual(box, Box(3, 2, 1, [rule(10, 20)]))

    def test_far(self):
        self.assertEqual(widened(Box(-LIMIT, 0, 0, [rule()]), LIMIT), Box(LIMIT, 0, 0, [rule(LIMIT)]))
        self.assertEqual(widened(Box(LIMIT, 0, 0, [rule()]), -LIMIT), Box(-LIMIT, 0, 0, [rule(-LIMIT)]))

    def test_wrong(self):
        for value in [LIMIT + 1, -LIMIT - 1, None] + odd_values():
            self.assertTells(InvalidArgument, {"part": "width"}, widened, Box(1, 2, 3), value)

    def test_new(self):
        box = Box(1, 2, 3, [rule()])
        widened(box, 1).marks.append(glyph())
        self.assertEqual(box.marks, [rule()])


class Ink(Case):

    def test_items(self):
        marks = [
            rule(2, 3, 4, 5, (7,)), glyph(2, 3, "b", 1, 2, (7, 4, 0)), glyph(2, 3, "a", 1, 2), rule(-1, 9, 0, 0),
            rule(2, 3, 4, 5, ()), rule(2, 3, 4, -5), glyph(2, 2, "z", 3, 0),
        ]
        self.assertEqual(ink(Box(0, 0, 0, marks)), [
            (-1, 9, "rule", 0, 0), (2, 2, "glyph", 3, 0, "z"), (2, 3, "glyph", 1, 2, "a"), (2, 3, "glyph", 1, 2, "b"),
            (2, 3, "rule", 4, -5), (2, 3, "rule", 4, 5), (2, 3, "rule", 4, 5),
        ])
        self.assertEqual(ink(box=Box(1, 2, 3)), [])

    def test_nothing_is_changed(self):
        box = Box(1, 2, 3, [rule(5), rule(4)])
        ink(box).clear()
        self.assertEqual(box, Box(1, 2, 3, [rule(5), rule(4)]))


class Unlike(Case):

    def unlike(self, one, other, expected):
        for left, right, flip in ((one, other, False), (other, one, True)):
            told = expected
            if flip and expected and expected[0] == "ink":
                told = ("ink", 1 - expected[1], expected[2])
            self.assertEqual(first_unlike(left, right), told)
            self.assertIs(same_ink(left, right), told is None)

    def test_alike(self):
        one = Box(1, 2, 3, [rule(5), glyph(4), rule(5)])
        self.unlike(one, one, None)
        self.unlike(one, Box(1, 2, 3, [rule(5, path=(3, 4)), rule(5), glyph(4, path=())]), None)
        self.unlike(Box(0, 0, 0), Box(0, 0, 0), None)

    def test_sizes(self):
        self.unlike(Box(1, 2, 3), Box(0, 1, 2, [rule()]), ("width",))
        self.unlike(Box(1, 2, 3), Box(1, 1, 2, [rule()]), ("height",))
        self.unlike(Box(1, 2, 3), Box(1, 2, 2, [rule()]), ("depth",))

    def ink_unlike(self, one, other, which, item):
        self.unlike(Box(1, 2, 3, one), Box(1, 2, 3, other), ("ink", which, item))

    def test_ink(self):
        one, two, three = (1, 0, "rule", 3, 1), (2, 0, "rule", 3, 1), (3, 0, "rule", 3, 1)
        self.ink_unlike([rule(1)], [], 0, one)
        self.ink_unlike([rule(2), rule(1)], [rule(2)], 0, one)
        self.ink_unlike([rule(2), rule(1)], [rule(1)], 0, two)
        self.ink_unlike([rule(2)], [rule(1)], 1, one)
        self.ink_unlike([rule(3), rule(2)], [rule(1), rule(3)], 1, one)
        self.ink_unlike([rule(1), rule(2), rule(3)], [rule(1), rule(3), rule(3)], 0, two)
        self.ink_unlike([rule(1), rule(1), rule(2)], [rule(1), rule(2), rule(2)], 0, one)
        self.ink_unlike([rule(1), rule(2), rule(2)], [rule(1), rule(2), rule(2), rule(2)], 1, two)
        self.ink_unlike([rule(1), rule(2), rule(3)], [rule(1), rule(2), rule(2)], 1, two)
        self.ink_unlike([rule(1), rule(3), rule(3)], [rule(1), rule(3)], 0, three)

    def test_kinds_of_ink(self):
        self.ink_unlike([rule()], [glyph()], 1, (0, 0, "glyph", 0, 0, "a"))
        self.ink_unlike([glyph(name="b")], [glyph(name="a")], 1, (0, 0, "glyph", 0, 0, "a"))
        self.ink_unlike([glyph(size=1)], [glyph(size=0)], 1, (0, 0, "glyph", 0, 0, "a"))
        self.ink_unlike([rule(height=-1)], [rule()], 0, (0, 0, "rule", 3, -1))

    def test_by_name(self):
        self.assertIsNone(first_unlike(other=Box(0, 0, 0), one=Box(0, 0, 0)))
        self.assertTrue(same_ink(other=Box(0, 0, 0), one=Box(0, 0, 0)))


class Extent(Case):

    def setUp(self):
        self.fonts = fonts_of({"a": (500, 400, 30, 20, None, None), "b": (7, 0, 600, 9, None, None)})

    def test_none(self):
        self.assertIsNone(extent(self.fonts, Box(5, 6, 7)))

    def test_marks(self):
        self.assertEqual(extent(self.fonts, Box(0, 0, 0, [glyph(10, 20)])), (10, 510, 420, -10))
        self.assertEqual(extent(self.fonts, Box(0, 0, 0, [glyph(10, 20, "b")])), (10, 17, 20, -580))
        self.assertEqual(extent(self.fonts, Box(9, 9, 9, [rule(1, 2, 30, 40)])), (1, 31, 42, 2))
        self.assertEqual(extent(self.fonts, Box(9, 9, 9, [rule(1, 2, -30, -40)])), (-29, 1, 2, -38))

    def test_several(self):
        marks = [glyph(-100, 0), rule(0, 300, 900, 200), glyph(0, -50, "b"), rule(5, 5, 0, 0)]
        self.assertEqual(extent(fonts=self.fonts, box=Box(0, 0, 0, marks)), (-100, 900, 500, -650))

    def test_faces(self):
        faces = [({"a": (at, at, at, 0, None, None)}, {}, False) for at in range(1, 7)]
        fonts = some_fonts([tuple(faces[:3]), tuple(faces[3:])])
        for at in range(6):
            box = Box(0, 0, 0, [glyph(family=at // 3, size=at % 3)])
            self.assertEqual(extent(fonts, box), (0, at + 1, at + 1, -at - 1))

    def test_no_fonts(self):
        for fonts in [None, 0, a_family()] + odd_values()[:-1]:
            self.assertTells(InvalidArgument, {"part": "fonts"}, extent, fonts, None)

    def test_no_glyph(self):
        rows = [
            (1, "a", [rule(), glyph(family=1, name="a"), glyph(name="z")]),
            (3, "b", [glyph(), glyph(family=3, name="b")]),
            (0, "z", [glyph(name="z"), glyph(family=1)]),
        ]
        for family, name, marks in rows:
            told = {"family": family, "name": name}
            self.assertTells(NoGlyph, told, extent, self.fonts, Box(0, 0, 0, marks))

    def test_nothing_is_changed(self):
        box = Box(0, 0, 0, [rule(), glyph()])
        extent(self.fonts, box)
        self.assertEqual(box, Box(0, 0, 0, [rule(), glyph()]))


if __name__ == "__main__":
    unittest.main()
