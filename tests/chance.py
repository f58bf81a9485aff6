"""Fonts and formulas made at random, with all that they can have."""

from mathboxes.fonts import Fonts
from tests.samples import NUMBER_WORDS, SETTING_WORDS

NAMES = "abcdefgh"
CLASSES = ["ord", "ord", "ord", "bin", "rel", "open", "close", "punct"]


def some_amount(chance, most):
    """A number that is often a small one, sometimes 0."""
    return chance.choice([0, chance.randrange(most), chance.randrange(most), chance.randrange(most // 9 + 1)])


def some_glyphs(chance, most):
    glyphs = {}
    for at, name in enumerate(NAMES):
        later, parts = None, None
        if at + 1 < len(NAMES) and chance.random() < 0.5:
            later = chance.choice(NAMES[at + 1:])
        elif chance.random() < 0.3:
            parts = tuple(chance.choice([None, chance.choice(NAMES)]) for _ in range(3)) + (chance.choice(NAMES),)
        glyphs[name] = (*[some_amount(chance, most) for _ in range(4)], later, parts)
    return glyphs


def some_pairs(chance, most):
    pairs = {}
    for _ in range(12):
        deed = chance.choice([("kern", chance.randrange(-most, most)), ("kern", 5), ("join", chance.choice(NAMES))])
        pairs[chance.choice(NAMES), chance.choice(NAMES)] = deed
    return pairs


def chance_fonts(chance, most=900, families=2):
    """Fonts whose faces all have the same names of glyphs, but one that lacks in the second family."""
    made = [
        tuple((some_glyphs(chance, most), some_pairs(chance, most // 4), chance.random() < 0.4) for _ in range(3))
        for _ in range(families)
    ]
    numbers = tuple({word: some_amount(chance, most) for word in NUMBER_WORDS} for _ in range(3))
    settings = {word: some_amount(chance, most) for word in SETTING_WORDS}
    settings.update(thin=chance.randrange(6), medium=chance.randrange(6), thick=chance.randrange(6))
    settings["factor"] = chance.randrange(1001)
    return Fonts(made, numbers, settings, skew=chance.choice([None, "a", "b", "h"]))


def some_delimiter(chance):
    if chance.random() < 0.3:
        return None
    return (chance.choice([0, 0, 1, 3]), chance.choice(NAMES), chance.choice([0, 1, 1, 2]), chance.choice(NAMES))


class Maker:
    """Makes formulas of items of given words, so many items at the most, so deep at the most."""

    def __init__(self, chance, items=40, deep=5, words=None):
        self.chance = chance
        self.left = items
        self.deepest = deep
        self.words = words or (
            ["symbol"] * 12 + ["kern", "kern", "style", "choice"]
            + "list over under center root accent accent operator operator fence fence fraction fraction table".split()
        )

    def formula(self, deep=1, middles=False):
        made = []
        for _ in range(self.chance.randrange(6 if deep == 1 else 4)):
            if self.left > 0:
                self.left -= 1
                made.append(self.item(deep, middles))
        return made

    def lone(self, deep):
        """A formula that is often one symbol alone."""
        if self.chance.random() < 0.6 and self.left > 0 and deep <= self.deepest:
            self.left -= 1
            return [("symbol", "ord", self.family(), self.chance.choice(NAMES), None, None)]
        return self.inner(deep)

    def inner(self, deep, middles=False):
        return self.formula(deep, middles) if deep <= self.deepest else []

    def family(self):
        return self.chance.choice([0, 0, 1])

    def scripts(self, deep):
        return [self.inner(deep + 1) if self.chance.random() < 0.3 else None for _ in range(2)]

    def item(self, deep, middles):
        chance = self.chance
        word = chance.choice(self.words + (["middle"] * 5 if middles else []))
        makers = {
            "symbol": lambda: (
                word, chance.choice(CLASSES), self.family(), chance.choice(NAMES), *self.scripts(deep)),
            "kern": lambda: (word, chance.randrange(-200, 400), chance.choice(["units", "mu"])),
            "style": lambda: (word, chance.choice([0, 2, 4, 6])),
            "choice": lambda: (word, *[self.inner(deep + 1) for _ in range(4)]),
            "list": lambda: (
                word, chance.choice(CLASSES + ["op", "inner"]), self.inner(deep + 1), *self.scripts(deep)),
            "over": lambda: (word, self.inner(deep + 1), *self.scripts(deep)),
            "under": lambda: (word, self.inner(deep + 1), *self.scripts(deep)),
            "center": lambda: (word, self.inner(deep + 1), *self.scripts(deep)),
            "root": lambda: (word, some_delimiter(chance), self.inner(deep + 1), *self.scripts(deep)),
            "accent": lambda: (
                word, self.family(), chance.choice(NAMES), self.lone(deep + 1), *self.scripts(deep)),
            "operator": lambda: (
                word, chance.choice(["display", "always", "never"]), self.lone(deep + 1), *self.scripts(deep)),
            "fence": lambda: (
                word, some_delimiter(chance), self.inner(deep + 1, True), some_delimiter(chance),
                *self.scripts(deep)),
            "middle": lambda: (word, some_delimiter(chance)),
            "fraction": lambda: (
                word, self.inner(deep + 1), self.inner(deep + 1), chance.choice([None, None, 0, 7, 60]),
                some_delimiter(chance), some_delimiter(chance)),
            "table": lambda: self.table(deep),
        }
        return makers[word]()

    def table(self, deep):
        chance = self.chance
        columns = "".join(chance.choice(["", "|", "||"]) + chance.choice("lcr") for _ in range(chance.randrange(1, 4)))
        columns += chance.choice(["", "", "|", "|||"])
        many = len(columns.replace("|", ""))
        rows = []
        for _ in range(chance.randrange(1, 4)):
            rows.extend(["rule"] * chance.choice([0, 0, 1, 2]))
            rows.append([self.inner(deep + 1) for _ in range(many)])
        rows.extend(["rule"] * chance.choice([0, 0, 1, 3]))
        return ("table", columns, rows, *self.scripts(deep))
