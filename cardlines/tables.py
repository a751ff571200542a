"""Tables: rows of segments that lead all cards of a strip."""

from cardlines.entries import entry_bytes
from cardlines.errors import Torn
from cardlines.leading import COPIES, MOST
from cardlines.least import least_entries
from cardlines.segments import opening_bytes, segment_at


def line_told(places):
    """The line ahead by which next leads to the first of these places that has a line."""
    for place in places:
        if place.line is not None:
            return place.line - 1
    return 0


def segment_bytes(card, places, make):
    """The bytes of the segment that leads to these places from this card on."""
    line = line_told(places)
    codes = opening_bytes(card, line)
    for entry in least_entries(places, line=line, make=make):
        codes.extend(entry_bytes(entry))
    return codes


def written(places, *, make=COPIES, every=MOST):
    """The table of these places, in segments of every cards each, but the last."""
    codes = []
    # A caller who asks for less than one card in a segment is refused nowhere, so gets one.
    step = max(1, every)
    for card in range(0, len(places), step):
        codes.extend(segment_bytes(card, places[card:card + step], make))
    return codes


def segments_of(codes):
    """The list of tuples (at, card, places) of all segments of a table."""
    segments = []
    at = 0
    card = 0
    while at < len(codes):
        first, places, behind = segment_at(codes, at, card)
        segments.append((at, first, places))
        at = behind
        card += len(places)
    return segments


def read(codes):
    """The places to which a table leads."""
    return [place for at, card, places in segments_of(codes) for place in places]


def tear_of(codes):
    """The place of the first byte at which a table can't go on, None where these are one."""
    try:
        segments_of(codes)
    except Torn as torn:
        return torn.at
    return None


def marks_of(codes):
    """The list of pairs (card, at) of the first cards of all segments of a table and their 255s."""
    return [(card, at) for at, card, places in segments_of(codes)]
