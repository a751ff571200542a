"""Strips, tables and turns by chance, with which several tests ask."""

from cardlines.figures import number_bytes
from cardlines.places import Place
from tests.document import bytes_of, led_by_the_document, turned_by_the_document

NOWHERE = Place()
PART = Place(2, begin=1, end=3)
LONG = Place(3, 4, begin=5, end=1)


def strip(chance, many):
    """Places of all kinds, some of them in runs, some told again."""
    told = []
    kinds = (NOWHERE, Place(1), Place(2), Place(3), Place(700), PART, LONG, Place(10 ** 6), PART.moved(1))
    while len(told) < many:
        if told and chance.randrange(4) == 0:
            told += told[-chance.randrange(1, 6):]
        else:
            told += [chance.choice(kinds)] * chance.choice((1, 1, 2, 5))
    return told[:many]


def row_of(chance, many):
    """Entries that lead to so many cards with a line ahead: the pair of both."""
    line = chance.choice((0, 1, 50, 999990))
    row = []
    while many > 0:
        some = chance.randrange(1, many + 1)
        step = chance.choice((-2, -1, 0, 1, 2, 5, 33))
        entry = chance.choice((
            ("none", some), ("same", some), ("next", some), ("line", some, step), ("part", some, step, 4, 5),
            ("long", some, step, 2, 70, 0), ("copy", some, chance.randrange(1, 5), step),
        ))
        if isinstance(led_by_the_document(row + [entry], line), tuple):
            row.append(entry)
            many -= some
    return row, line


def segment(chance, card, many):
    """The pair of a segment's bytes and its places."""
    row, line = row_of(chance, many)
    return [255] + number_bytes(card) + number_bytes(line) + bytes_of(row), led_by_the_document(row, line)[0]


def anothers_table(chance):
    """A table that isn't least, and its places."""
    codes = []
    places = []
    for number in range(chance.randrange(1, 5)):
        more, cards = segment(chance, len(places), chance.randrange(1, 17))
        codes += more
        places += cards
    return codes, places


def any_turn(chance, many):
    """A turn of so many cards; of some turns there are no such cards."""
    at = chance.randrange(many + 1)
    some = chance.randrange(1, max(2, min(12, many - at + 1)))
    to = chance.randrange(many + 1)
    word = chance.choice(("put", "take", "move", "one", "twice", "lines"))
    if word == "put":
        return word, at, tuple(strip(chance, chance.randrange(1, 9)))
    if word == "take":
        return word, at, some
    if word == "one":
        return word, at, max(2, some)
    if word == "lines":
        first = chance.choice((1, 2, 3, 4, 5, 400, 700, 999999, 10 ** 6))
        return word, first, chance.choice((0, 0, 1, 2, 500)), chance.choice((0, 0, 1, 2, 300))
    if word == "move" and at < to < at + some:
        to = chance.choice((at, at + some))
    return word, at, some, to


def row_of_turns(chance, places, many):
    """So many turns that can be done to these places, one behind the other."""
    turns = []
    cards = len(places)
    while len(turns) < many:
        more = turns + [any_turn(chance, cards)]
        told = turned_by_the_document(places, more)
        if not isinstance(told, int):
            turns = more
            cards = len(told[0])
    return turns
