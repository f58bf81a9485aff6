"""Tables: how wide columns are, how far rows stand from one another, and where bars and rules are."""

from mathboxes.boxes import wrong_part
from mathboxes.checks import check_fonts, check_style
from mathboxes.errors import InvalidArgument
from mathboxes.kinds import is_columns, letter_count
from mathboxes.measures import half, size_of
from mathboxes.parts import Part, boxed
from mathboxes.shapes import is_rows


def tabled(fonts, style, columns, rows):
    """The box of a table of boxes."""
    check_table(fonts, style, columns, rows)
    return boxed(table_part(fonts, style, columns, rows, ()))


def table_grid(fonts, style, columns, rows):
    """The left ends of the columns, their widths, and how high the baselines of the rows stand."""
    check_table(fonts, style, columns, rows)
    thick = fonts.number_of("rule", size_of(style))
    across = Across(fonts, columns, rows, thick)
    down = Down(fonts, rows, thick)
    top = top_of(fonts, style, down.length)
    return across.lefts, across.widths, [top - baseline for baseline in down.baselines]


def table_rooms(fonts, style, columns, rows):
    """For each row but the last one how much its depth may grow so that the next row stays as far from it."""
    check_table(fonts, style, columns, rows)
    down = Down(fonts, rows, fonts.number_of("rule", size_of(style)))
    return [max(0, fonts.setting_of("baseline") - needed) for needed in down.needs]


def check_table(fonts, style, columns, rows):
    check_fonts(fonts)
    check_style(style)
    if not is_columns(columns):
        raise InvalidArgument("columns")
    if not is_rows(rows, letter_count(columns)):
        raise InvalidArgument("rows")
    for cells in rows_with_cells(rows):
        for cell in cells:
            if wrong_part(cell) is not None:
                raise InvalidArgument("rows")


def rows_with_cells(rows):
    return [row for row in rows if isinstance(row, list)]


class Across:
    """What stands beside one another: columns and bars, from the left end on."""

    def __init__(self, fonts, columns, rows, thick):
        cells = rows_with_cells(rows)
        self.letters = columns.replace("|", "")
        self.widths = [
            fonts.greatest([0] + [row[at].width for row in cells]) for at in range(len(self.letters))
        ]
        self.lefts = []
        self.bars = []
        gap = fonts.setting_of("column")
        ahead, behind = half(gap), gap - half(gap)
        x = 0
        for at, many in enumerate(bar_counts(columns)):
            is_first, is_last = at == 0, at == len(self.letters)
            if many > 0:
                x += 0 if is_first else ahead
                self.bars.extend([x + 3 * thick * bar for bar in range(many)])
                x += taken_by(many, thick) + (0 if is_last else behind)
            elif not (is_first or is_last):
                x += gap
            if not is_last:
                self.lefts.append(x)
                x += self.widths[at]
        self.width = x

    def place_in(self, at, width):
        """Where the left end of a cell so wide stands in a column."""
        letter = self.letters[at]
        if letter == "l":
            return self.lefts[at]
        room = self.widths[at] - width
        return self.lefts[at] + (room if letter == "r" else room // 2)


class Down:
    """What stands below one another: baselines of rows and rules, told by how far below the top they are."""

    def __init__(self, fonts, rows, thick):
        cells = rows_with_cells(rows)
        heights = [fonts.greatest([0] + [cell.height for cell in row]) for row in cells]
        depths = [fonts.greatest([0] + [cell.depth for cell in row]) for row in cells]
        counts = rule_counts(rows)
        apart = fonts.setting_of("apart")
        self.baselines = []
        self.rules = []
        # What two rows need so that nothing between them comes too near.
        self.needs = []
        y = self.put_rules(0, counts[0], thick)
        y += heights[0] + (apart if counts[0] > 0 else 0)
        for at, depth in enumerate(depths):
            self.baselines.append(y)
            below = self.put_rules(y + depth + apart, counts[at + 1], thick)
            if at + 1 < len(depths):
                if counts[at + 1] > 0:
                    below += apart
                self.needs.append(below + heights[at + 1] - y)
                y += fonts.greatest([fonts.setting_of("baseline"), self.needs[at]])
        self.length = below if counts[-1] > 0 else y + depths[-1]

    def put_rules(self, y, many, thick):
        """Put so many rules one below another; return where they end."""
        self.rules.extend([y + 3 * thick * rule for rule in range(many)])
        return y + taken_by(many, thick)


def taken_by(many, thick):
    """How much room so many bars or rules one behind another take."""
    return (3 * many - 2) * thick if many > 0 else 0


def bar_counts(columns):
    """How many bars stand ahead of each letter, and behind the last one."""
    counts = [0]
    for sign in columns:
        if sign == "|":
            counts[-1] += 1
        else:
            counts.append(0)
    return counts


def rule_counts(rows):
    """How many rules stand ahead of each row with cells, and behind the last one."""
    counts = [0]
    for row in rows:
        if isinstance(row, list):
            counts.append(0)
        else:
            counts[-1] += 1
    return counts


def top_of(fonts, style, length):
    """How high the top of a table stands above its baseline."""
    return fonts.number_of("axis", size_of(style)) + half(length)


def table_part(fonts, style, columns, rows, path):
    """As tabled, without its checks, with bars and rules of a path."""
    thick = fonts.number_of("rule", size_of(style))
    across = Across(fonts, columns, rows, thick)
    down = Down(fonts, rows, thick)
    top = top_of(fonts, style, down.length)
    marks = []
    for row, baseline in zip(rows_with_cells(rows), down.baselines):
        for at, cell in enumerate(row):
            marks.append((across.place_in(at, cell.width), top - baseline, cell))
    for x in across.bars:
        marks.append((x, top - down.length, ("rule", path, thick, down.length)))
    for y in down.rules:
        marks.append((0, top - y - thick, ("rule", path, across.width, thick)))
    return Part(across.width, top, down.length - top, marks)
