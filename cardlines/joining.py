"""Tables joined, cut and turned."""

from cardlines.errors import NoCard
from cardlines.leading import COPIES, MOST
from cardlines.tables import read, written
from cardlines.turns import turned


def joined(one, other, *, by=0, make=COPIES, every=MOST):
    """The table of one table's places, then those of the other moved by so many lines."""
    places = read(one) + [place.moved(by) for place in read(other)]
    return written(places, make=make, every=every)


def cut(codes, first, last, *, make=COPIES, every=MOST):
    """The table of the cards first to last of a table."""
    places = read(codes)
    for card in (first, last):
        if not 0 <= card < len(places):
            raise NoCard(card)
    if last < first:
        raise NoCard(last)
    return written(places[first:last + 1], make=make, every=every)


def table_turned(codes, turns, *, make=COPIES, every=MOST):
    """The table of a table's places behind all turns."""
    return written(turned(read(codes), turns), make=make, every=every)
