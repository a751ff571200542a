"""Rows of entries, and the places to which they lead cards."""

from cardlines.errors import BadEntry, BadPlace
from cardlines.places import Place

COPIES = "copies"
HEADS = "heads"
MOST = 16


def place_led(entry, places, ahead):
    """The one place to which an entry other than copy leads all its cards behind these places."""
    word = entry[0]
    if word == "none":
        return Place()
    if word == "same":
        return places[-1]
    if word == "next":
        return Place(ahead + 1)
    line = ahead + entry[2]
    if word == "line":
        return Place(line)
    if word == "part":
        return Place(line, begin=entry[3], end=entry[3] + entry[4])
    return Place(line, line + entry[3], begin=entry[4], end=entry[5])


def copied(entry, places):
    """The places of the cards that a copy leads behind these places."""
    word, many, back, shift = entry
    row = list(places)
    for card in range(many):
        row.append(row[-back].moved(shift))
    return row[len(places):]


def reach(entry):
    """How many cards an entry needs ahead of it."""
    if entry[0] == "copy":
        return entry[2]
    return 1 if entry[0] == "same" else 0


def cards_led(entry, places, ahead):
    """The places of an entry's cards behind these places, by the line ahead; None where it can't stand."""
    if reach(entry) > len(places):
        return None
    try:
        if entry[0] == "copy":
            return copied(entry, places)
        return [place_led(entry, places, ahead)] * entry[1]
    except BadPlace:
        return None


def line_after(places, ahead):
    """The line ahead behind cards of these places."""
    for place in reversed(places):
        if place.line is not None:
            return place.line
    return ahead


def followed(entries, line):
    """The pair of the places to which entries lead, and the line ahead behind them."""
    places = []
    ahead = line
    for number, entry in enumerate(entries):
        cards = cards_led(entry, places, ahead)
        if cards is None:
            raise BadEntry(number)
        places.extend(cards)
        ahead = line_after(cards, ahead)
    return (places, ahead)


def led(entries, *, line=0):
    """The list of Places to which entries lead cards, with a told line ahead."""
    places, ahead = followed(entries, line)
    return places


def line_behind(entries, *, line=0):
    """The line ahead behind entries, with a told line ahead."""
    places, ahead = followed(entries, line)
    return ahead
