"""Places of a pattern's text: nowhere, a line, a part of one line or of several."""

from cardlines.errors import BadPlace
from cardlines.plain import LAST_COLUMN, LAST_LINE, is_number

MOST_LINES_BEHIND = 99


def wrong_columns(begin, end, one_line):
    """The word of the first column that isn't so, of a place of one line or of several; None where both are."""
    if begin is None and one_line:
        return None if end is None else "end"
    if not is_number(begin, 0, LAST_COLUMN):
        return "begin"
    low = begin if one_line else 0
    return None if is_number(end, low, LAST_COLUMN) else "end"


def wrong_of_nowhere(last, begin, end):
    """The word of the first thing that is told although there is no line, None where nothing is."""
    for word, thing in (("last", last), ("begin", begin), ("end", end)):
        if thing is not None:
            return word
    return None


def wrong_part(line, last, begin, end):
    """The word of the first one that isn't so by those ahead of it, None where all are."""
    if line is None:
        return wrong_of_nowhere(last, begin, end)
    if not is_number(line, 1, LAST_LINE):
        return "line"
    if last is None:
        return wrong_columns(begin, end, True)
    if not is_number(last, line, min(line + MOST_LINES_BEHIND, LAST_LINE)):
        return "last"
    return wrong_columns(begin, end, last == line)


class Place:
    """A place of the pattern's text; it never changes."""

    def __init__(self, line=None, last=None, *, begin=None, end=None):
        part = wrong_part(line, last, begin, end)
        if part is not None:
            raise BadPlace(part)
        self.line = line
        self.last = line if last is None else last
        self.begin = begin
        self.end = end

    def has(self, line):
        """Whether that is one of its lines."""
        return self.line is not None and self.line <= line <= self.last

    def moved(self, by):
        """The Place so many lines later, nowhere of nowhere."""
        if self.line is None:
            return self
        return Place(self.line + by, self.last + by, begin=self.begin, end=self.end)

    def __eq__(self, other):
        return (isinstance(other, Place) and self.line == other.line and self.last == other.last
                and self.begin == other.begin and self.end == other.end)

    def __len__(self):
        if self.line is None:
            return 0
        return len(range(self.line, self.last + 1))

    def __str__(self):
        if self.line is None:
            return "-"
        if self.begin is None:
            return f"{self.line}"
        if self.line == self.last:
            return f"{self.line}.{self.begin}-{self.end}"
        return f"{self.line}.{self.begin}-{self.last}.{self.end}"

    def __repr__(self):
        return f"Place({str(self)})"
