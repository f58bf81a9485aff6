"""How the best breaks are found for whole rows of widths: where numbers change their signs."""

import random
import unittest

from mathboxes.pagewidths import signs
from tests.samples import LIMIT, Case


def sign(number):
    return (number > 0) - (number < 0)


class Signs(Case):

    def check(self, c0, c1, c2, first, last, places):
        told = signs(c0, c1, c2, first, last)
        self.assertEqual((told[0][0], told[-1][1]), (first, last))
        for one, other in zip(told, told[1:]):
            self.assertEqual(one[1] + 1, other[0])
        for place in places:
            here = [there for begin, end, there in told if begin <= place <= end]
            self.assertEqual(here, [sign(c0 + c1 * place + c2 * place * place)], (c0, c1, c2, first, last, place))

    def test_small_ones(self):
        chance = random.Random(1)
        for _ in range(4000):
            numbers = [chance.randrange(-40, 41), chance.randrange(-12, 13), chance.randrange(-3, 4)]
            first = chance.randrange(12)
            last = first + chance.randrange(15)
            self.check(*numbers, first, last, range(first, last + 1))

    def test_roots_far_away(self):
        chance = random.Random(2)
        for _ in range(2000):
            one, other = chance.randrange(10 ** 9), chance.randrange(10 ** 9)
            c2 = chance.choice([-3, -1, 1, 2, 7])
            wrong = chance.choice([-1, 0, 0, 1])
            near = {place + more for place in (one, other) for more in range(-3, 4)}
            self.check(c2 * one * other + wrong, -c2 * (one + other), c2, 0, 10 ** 9 + 5, [place for place in near if place >= 0])

    def test_great_ones(self):
        self.check(-LIMIT * LIMIT, 0, 1, 0, 2 * LIMIT, [0, LIMIT - 1, LIMIT, LIMIT + 1, 2 * LIMIT])
        self.check(1 - LIMIT * LIMIT, 0, 1, 0, 2 * LIMIT, [0, LIMIT - 1, LIMIT, LIMIT + 1])
        self.check(-LIMIT, 1, 0, 0, 2 * LIMIT, [0, LIMIT - 1, LIMIT, LIMIT + 1])
        self.assertEqual(signs(0, 0, 0, 3, LIMIT), [(3, LIMIT, 0)])
        self.assertEqual(signs(-5, 0, 0, 3, 3), [(3, 3, -1)])

    def test_few_stretches(self):
        self.assertLessEqual(len(signs(-LIMIT * LIMIT, 0, 1, 0, 2 * LIMIT)), 7)


if __name__ == "__main__":
    unittest.main()
