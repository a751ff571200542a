"""Bytes as texts of two signs each, sixteen in a row."""

from cardlines.errors import BadRow

SIGNS = "0123456789abcdef"
IN_A_ROW = 16


def hex_text(codes):
    """Each byte as two signs, parted by one blank, 16 in a row."""
    words = [f"{code:02x}" for code in codes]
    rows = [" ".join(words[at:at + IN_A_ROW]) for at in range(0, len(words), IN_A_ROW)]
    return "\n".join(rows)


def is_byte(word):
    """Whether a word is a byte's two signs."""
    return len(word) == 2 and word[0] in SIGNS and word[1] in SIGNS


def hex_in(text):
    """The bytes that a text tells so, any number in a row."""
    codes = []
    for number, row in enumerate(text.split("\n")):
        if row == "":
            continue
        for word in row.split(" "):
            if not is_byte(word):
                raise BadRow(number)
            codes.append(len(SIGNS) * SIGNS.index(word[0]) + SIGNS.index(word[1]))
    return codes
