"""Reading from any byte on, and what is saved of bytes that are no table."""

from cardlines.errors import NoCard, Torn
from cardlines.segments import SEGMENT, segment_at


def right_segment(codes, at):
    """The tuple (first card, places, place behind) of the segment at a 255, None where it isn't right."""
    try:
        return segment_at(codes, at, None)
    except Torn:
        return None


def saved(codes):
    """The list of tuples (at, card, places) of all right segments, rising."""
    told = []
    for at, code in enumerate(codes):
        segment = right_segment(codes, at) if code == SEGMENT else None
        if segment is not None:
            card, places, behind = segment
            told.append((at, card, places))
    return told


def place_at(codes, card):
    """The place of a card by the first right segment that has it."""
    for at, first, places in saved(codes):
        if first <= card < first + len(places):
            return places[card - first]
    raise NoCard(card)


def read_from(codes, at):
    """The pair (card, places) of the first segment from the byte at on, and those that go on behind it."""
    behind = max(0, at)
    while behind < len(codes) and codes[behind] != SEGMENT:
        behind += 1
    first = None
    row = []
    while behind < len(codes):
        segment = right_segment(codes, behind)
        if segment is None:
            break
        card, places, behind = segment
        if first is None:
            first = card
        if card != first + len(row):
            break
        row.extend(places)
    return (first, row)
