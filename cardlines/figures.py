"""Numbers in bytes: base 64, the lowest figure first, 64 put on to each but the last."""

from cardlines.errors import Torn

BASE = 64
MOST_FIGURES = 4
# Bytes from here on are no figures.
FIRST_HEAD = 128


def number_bytes(number):
    """The figures of a number from 0 on."""
    codes = []
    rest = number
    while rest >= BASE:
        codes.append(rest % BASE + BASE)
        rest //= BASE
    codes.append(rest)
    return codes


def signed_bytes(number):
    """The figures of a number that may be below 0."""
    return number_bytes(-2 * number - 1 if number < 0 else 2 * number)


def number_at(codes, at):
    """The pair of the number written from the byte at on, and the place behind it."""
    number = 0
    worth = 1
    for place in range(at, at + MOST_FIGURES):
        if place >= len(codes):
            raise Torn(len(codes))
        code = codes[place]
        if code >= FIRST_HEAD:
            raise Torn(place)
        if code < BASE:
            if code == 0 and place > at:
                raise Torn(place)
            return (number + code * worth, place + 1)
        number += (code - BASE) * worth
        worth *= BASE
    raise Torn(at + MOST_FIGURES - 1)


def signed_at(codes, at):
    """The pair of the signed number written from the byte at on, and the place behind it."""
    number, behind = number_at(codes, at)
    if number % 2 == 1:
        return (-(number // 2) - 1, behind)
    return (number // 2, behind)
