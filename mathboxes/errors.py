"""The errors of the package; each one tells by its attributes what was wrong."""


class FormulaError(ArithmeticError):
    """The base of all errors of the package."""


class InvalidFont(FormulaError):
    """Something handed to Fonts is wrong: which part of it, and at which place."""

    def __init__(self, part, at):
        self.part = part
        self.at = at


class InvalidFormula(FormulaError):
    """What was handed in is no formula: the first path at which it is wrong."""

    def __init__(self, path):
        self.path = path


class InvalidBox(FormulaError):
    """What was handed in is no box: the first part of it that is wrong."""

    def __init__(self, part):
        self.part = part


class InvalidArgument(FormulaError):
    """An argument is wrong: the name of its parameter."""

    def __init__(self, part):
        self.part = part


class InvalidNumber(FormulaError):
    """A number cannot stand where it should: the number itself."""

    def __init__(self, number):
        self.number = number


class InvalidPath(FormulaError):
    """A path leads to no item of a formula: the path itself."""

    def __init__(self, path):
        self.path = path


class NoGlyph(FormulaError):
    """A face has no such glyph: the family and the name that were asked for."""

    def __init__(self, family, name):
        self.family = family
        self.name = name


class LimitExceeded(FormulaError):
    """There is more of something than a limit lets by: the limit."""

    def __init__(self, limit):
        self.limit = limit
