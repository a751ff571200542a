"""What many files need to know of numbers: their bounds, and how they are written in plain figures."""

LAST_LINE = 10 ** 6
LAST_COLUMN = 10 ** 4
# No number of a text is above 10 ** 6, and Python itself refuses to read very long ones.
LONGEST_NUMBER = 7


def is_whole(thing):
    """Whether a thing is a number; True and False are none."""
    return isinstance(thing, int) and not isinstance(thing, bool)


def is_number(thing, low, high):
    """Whether a thing is a number from low to high."""
    return is_whole(thing) and low <= thing <= high


def are_numbers(things, bounds):
    """Whether things are as many numbers as there are bounds, each within its own."""
    if len(things) != len(bounds):
        return False
    return all([is_number(thing, low, high) for thing, (low, high) in zip(things, bounds)])


def begins_with_word(thing, words):
    """Whether a thing is a tuple that begins with one of these words."""
    return isinstance(thing, tuple) and len(thing) > 0 and thing[0] in words


def number_in(text):
    """The number that a text tells in plain figures, no nought ahead; None of any other text."""
    if not text.isascii() or not text.isdigit() or len(text) > LONGEST_NUMBER:
        return None
    number = int(text)
    return number if str(number) == text else None


def signed_in(text):
    """The number that a text tells in plain figures, a `-` ahead of it where it's below 0; None of any other text."""
    number = number_in(text.removeprefix("-"))
    if number is None:
        return None
    signed = -number if text.startswith("-") else number
    return signed if str(signed) == text else None
