"""Places read from their texts."""

from cardlines.errors import BadPlace, BadText
from cardlines.places import Place
from cardlines.plain import number_in


def place_so_told(text):
    """The Place that the numbers of a text tell, what is no number being left out."""
    head, dash, tail = text.partition("-")
    line, dot, begin = head.partition(".")
    last, dot, end = tail.rpartition(".")
    return Place(number_in(line), number_in(last), begin=number_in(begin), end=number_in(end))


def place_in(text):
    """The Place whose str is just this text."""
    try:
        place = place_so_told(text)
    except BadPlace:
        raise BadText(text) from None
    # The numbers may be told in a way in which no Place writes them (3.4-3.9), or among other signs.
    if str(place) != text:
        raise BadText(text)
    return place
