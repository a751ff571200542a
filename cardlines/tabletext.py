"""Tables as texts: a row for each segment and each entry, with the place of its first byte."""

from cardlines.entries import entry_at, entry_bytes, is_entry
from cardlines.errors import BadRow
from cardlines.plain import are_numbers, signed_in
from cardlines.segments import SEGMENT, numbers_at, opening_bytes

WORD = "segment"
MOST_TOLD = 10 ** 6
# The bounds of a segment's card and line.
TOLD = ((0, MOST_TOLD), (0, MOST_TOLD))


def told_at(codes, at):
    """The pair of the tuple of a segment's or an entry's word and numbers at a byte, and the place behind it."""
    if codes[at] != SEGMENT:
        return entry_at(codes, at)
    card, line, behind = numbers_at(codes, at + 1, None)
    return ((WORD, card, line), behind)


def table_text(codes):
    """The rows of a table's segments and entries."""
    rows = []
    at = 0
    while at < len(codes):
        told, behind = told_at(codes, at)
        words = " ".join([str(part) for part in told])
        rows.append(f"{at}: {words}")
        at = behind
    return "\n".join(rows)


def bytes_told(words):
    """The bytes of the segment or the entry that words tell, None where they tell none."""
    numbers = [signed_in(word) for word in words[1:]]
    if words[0] == WORD:
        return opening_bytes(numbers[0], numbers[1]) if are_numbers(numbers, TOLD) else None
    entry = (words[0], *numbers)
    return entry_bytes(entry) if is_entry(entry) else None


def table_in(text):
    """The bytes that the rows of a text tell."""
    codes = []
    for number, row in enumerate(text.split("\n")):
        if row == "":
            continue
        at, blank, rest = row.partition(" ")
        words = rest.split(" ")
        if at != f"{len(codes)}:" or (len(codes) == 0 and words[0] != WORD):
            raise BadRow(number)
        more = bytes_told(words)
        if more is None:
            raise BadRow(number)
        codes.extend(more)
    return codes
