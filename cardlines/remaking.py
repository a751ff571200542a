"""Tables remade: to another make, without columns, and whether two of them tell the same cards."""

from cardlines.leading import HEADS, MOST
from cardlines.pairs import pairs_written
from cardlines.places import Place
from cardlines.tables import read, written

PAIRS = "pairs"


def bared(places):
    """Each place without columns: its first line alone."""
    return [Place(place.line) for place in places]


def remade(codes, *, make=HEADS, every=MOST):
    """The table of the same places in another make, or their pair table."""
    places = read(codes)
    if make == PAIRS:
        return pairs_written(places)
    return written(places, make=make, every=every)


def places_told(codes, columns):
    """The places to which a table leads, with or without their columns."""
    places = read(codes)
    return places if columns else bared(places)


def alike(one, other, *, columns=True):
    """None where two tables tell the same cards, else the first card that they don't tell alike."""
    first = places_told(one, columns)
    second = places_told(other, columns)
    for card, (place, beside) in enumerate(zip(first, second)):
        if place != beside:
            return card
    if len(first) != len(second):
        return min(len(first), len(second))
    return None
