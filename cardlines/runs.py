"""Runs of places: cards of one place, one behind the other, and strips written by them."""

from cardlines.errors import BadText, NoCard
from cardlines.placetext import place_in
from cardlines.plain import number_in

MOST_CARDS = 160


def runs_of(places):
    """The list of runs (many, place), as few as can be, that stand for a list of Places."""
    runs = []
    for place in places:
        if runs and runs[-1][1] == place:
            runs[-1] = (runs[-1][0] + 1, place)
        else:
            runs.append((1, place))
    return runs


def places_of(runs):
    """The list of Places for which runs stand."""
    places = []
    for many, place in runs:
        places.extend([place] * many)
    return places


def run_at(places, card):
    """The tuple (first, last, place) of the cards beside a card that have its place."""
    if not 0 <= card < len(places):
        raise NoCard(card)
    first = card
    while first > 0 and places[first - 1] == places[card]:
        first -= 1
    last = card
    while last + 1 < len(places) and places[last + 1] == places[card]:
        last += 1
    return (first, last, places[card])


def run_text(many, place):
    """The text of one run."""
    return str(place) if many == 1 else f"{many}*{place}"


def strip_text(places):
    """The runs of a list of Places, parted by one blank."""
    return " ".join([run_text(many, place) for many, place in runs_of(places)])


def run_in(word):
    """The run of which a word tells."""
    head, star, tail = word.partition("*")
    if star == "":
        return (1, place_in(word))
    many = number_in(head)
    if many is None:
        raise BadText(word)
    return (many, place_in(tail))


def strip_in(text):
    """The Places, 160 at most, whose strip_text is just this text."""
    places = []
    words = text.split(" ") if text else []
    for word in words:
        try:
            many, place = run_in(word)
        except BadText:
            raise BadText(text) from None
        # Asked ahead of the cards being made, as there may be a million of them.
        if len(places) + many > MOST_CARDS:
            raise BadText(text)
        places.extend([place] * many)
    # A text may tell these places by other runs than strip_text (1*3, 3 3, 0*3).
    if strip_text(places) != text:
        raise BadText(text)
    return places


def cards_of(places, line):
    """The rising list of pairs (first, last), as few as can be, of cards whose place has that line."""
    pairs = []
    for card, place in enumerate(places):
        if not place.has(line):
            continue
        if pairs and pairs[-1][1] == card - 1:
            pairs[-1] = (pairs[-1][0], card)
        else:
            pairs.append((card, card))
    return pairs


def lines_of(places):
    """The rising list of all lines that some place has."""
    seen = {}
    for place in places:
        if place.line is not None:
            for line in range(place.line, place.last + 1):
                seen[line] = True
    return sorted(seen)
