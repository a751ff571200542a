"""Segments: a byte 255, the number of the first card, a line ahead, and entries that lead by themselves."""

from cardlines.entries import entry_at
from cardlines.errors import Torn
from cardlines.figures import number_at, number_bytes
from cardlines.leading import MOST, cards_led, line_after
from cardlines.plain import LAST_LINE

# It stands nowhere else, as figures and heads are below it.
SEGMENT = 255


def opening_bytes(card, line):
    """The bytes of a segment ahead of its entries, by its first card and line ahead."""
    return [SEGMENT] + number_bytes(card) + number_bytes(line)


def numbers_at(codes, at, card):
    """The tuple (first card, line ahead, place behind) of a segment's two numbers, from the byte at on."""
    first, behind = number_at(codes, at)
    if card is not None and first != card:
        raise Torn(at)
    line, after = number_at(codes, behind)
    if line > LAST_LINE:
        raise Torn(behind)
    return (first, line, after)


def segment_at(codes, at, card):
    """The tuple (first card, places, place behind) of the segment at a byte, its first card this one (None: any)."""
    if codes[at] != SEGMENT:
        raise Torn(at)
    first, ahead, behind = numbers_at(codes, at + 1, card)
    places = []
    while behind < len(codes) and codes[behind] != SEGMENT:
        entry, after = entry_at(codes, behind)
        cards = cards_led(entry, places, ahead)
        if cards is None or len(places) + len(cards) > MOST:
            raise Torn(behind)
        places.extend(cards)
        ahead = line_after(cards, ahead)
        behind = after
    if len(places) == 0:
        raise Torn(behind)
    return (first, places, behind)
