"""Entries: tuples of a word and numbers that lead cards to places, and their bytes."""

from cardlines.errors import Torn
from cardlines.figures import FIRST_HEAD, number_at, number_bytes, signed_at, signed_bytes
from cardlines.plain import LAST_COLUMN, LAST_LINE, are_numbers, begins_with_word

LAST_HEAD = 239
HEADS_OF_A_WORD = 16

MANY = (1, HEADS_OF_A_WORD)
STEP = (-LAST_LINE, LAST_LINE)
COLUMN = (0, LAST_COLUMN)
MORE = (1, 99)
BACK = (1, 15)

# An entry's head tells its word by the place of the word among these.
WORDS = ("none", "same", "next", "line", "part", "long", "copy")
# The bounds of the numbers behind each word, in order.
BOUNDS = {
    "none": (MANY,),
    "same": (MANY,),
    "next": (MANY,),
    "line": (MANY, STEP),
    "part": (MANY, STEP, COLUMN, COLUMN),
    "long": (MANY, STEP, MORE, COLUMN, COLUMN),
    "copy": (MANY, BACK, STEP),
}


def is_entry(thing):
    """Whether a thing is an entry."""
    return begins_with_word(thing, WORDS) and are_numbers(thing[1:], BOUNDS[thing[0]])


def bounded_bytes(number, low):
    """The figures of an entry's number whose least one is low."""
    # What begins at 1 is written one less, so each number is told by how far it is from its least one.
    return signed_bytes(number) if low < 0 else number_bytes(number - low)


def bounded_at(codes, at, bounds):
    """The pair of an entry's number within its bounds, written from the byte at on, and the place behind it."""
    low, high = bounds
    if low < 0:
        number, behind = signed_at(codes, at)
    else:
        less, behind = number_at(codes, at)
        number = less + low
    if not low <= number <= high:
        raise Torn(at)
    return (number, behind)


def entry_bytes(entry):
    """The bytes of an entry: its head, and its numbers but many, which the head tells."""
    word = entry[0]
    codes = [FIRST_HEAD + HEADS_OF_A_WORD * WORDS.index(word) + entry[1] - 1]
    for number, (low, high) in zip(entry[2:], BOUNDS[word][1:]):
        codes.extend(bounded_bytes(number, low))
    return codes


def entry_at(codes, at):
    """The pair of the entry written from the byte at on, and the place behind it."""
    if at >= len(codes) or not FIRST_HEAD <= codes[at] <= LAST_HEAD:
        raise Torn(at)
    kind, less = divmod(codes[at] - FIRST_HEAD, HEADS_OF_A_WORD)
    word = WORDS[kind]
    numbers = [less + 1]
    behind = at + 1
    for bounds in BOUNDS[word][1:]:
        number, behind = bounded_at(codes, behind, bounds)
        numbers.append(number)
    return ((word, *numbers), behind)
