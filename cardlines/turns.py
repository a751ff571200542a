"""Turns: cards put in, taken out, moved, made one, made twice, and lines of the pattern put in and taken out."""

from cardlines.errors import BadPlace, BadTurn
from cardlines.places import Place
from cardlines.plain import are_numbers, begins_with_word
from cardlines.runs import MOST_CARDS, lines_of

GREATEST = 10 ** 6
FROM_NOUGHT = (0, GREATEST)
FROM_ONE = (1, GREATEST)
FROM_TWO = (2, GREATEST)

# The bounds of the numbers behind each word, in order; a put has its places behind them.
BOUNDS = {
    "put": (FROM_NOUGHT,),
    "take": (FROM_NOUGHT, FROM_ONE),
    "move": (FROM_NOUGHT, FROM_ONE, FROM_NOUGHT),
    "one": (FROM_NOUGHT, FROM_TWO),
    "twice": (FROM_NOUGHT, FROM_ONE, FROM_NOUGHT),
    "lines": (FROM_ONE, FROM_NOUGHT, FROM_NOUGHT),
}


def are_put(thing):
    """Whether a thing is a tuple of Places, one at least."""
    return isinstance(thing, tuple) and len(thing) > 0 and all([isinstance(part, Place) for part in thing])


def is_turn(thing):
    """Whether a thing is a turn; whether there are such cards isn't looked at."""
    if not begins_with_word(thing, list(BOUNDS)):
        return False
    if thing[0] == "put":
        return are_put(thing[-1]) and are_numbers(thing[1:-1], BOUNDS["put"])
    if not are_numbers(thing[1:], BOUNDS[thing[0]]):
        return False
    # Cards can't be moved to within themselves.
    return thing[0] != "move" or thing[3] <= thing[1] or thing[3] >= thing[1] + thing[2]


def first_cards(places):
    """The cards of these places ahead of all turns.

    A card is a tuple: its place, the number of the first card whose place it has (None where there is none), and the
    rising tuple of the numbers of all first cards from which it comes.
    """
    return [(place, card, (card,)) for card, place in enumerate(places)]


def with_put(cards, at, places):
    """The cards, and new ones of these places ahead of card at."""
    return cards[:at] + [(place, None, ()) for place in places] + cards[at:]


def with_taken(cards, at, many):
    """The cards without so many from at on."""
    return cards[:at] + cards[at + many:]


def with_moved(cards, at, many, to):
    """The cards, so many from at on standing ahead of what was card to."""
    rest = with_taken(cards, at, many)
    ahead = to if to <= at else to - many
    return rest[:ahead] + cards[at:at + many] + rest[ahead:]


def with_one(cards, at, many):
    """The cards, so many from at on being one."""
    group = cards[at:at + many]
    lined = [card for card in group if card[0].line is not None]
    # Where all are nowhere any one of them will do, and none has kept a line.
    place, source, own = lined[0] if lined else group[0]
    origin = tuple(sorted({number for other, kept, numbers in group for number in numbers}))
    return cards[:at] + [(place, source, origin)] + cards[at + many:]


def with_twice(cards, at, many, to):
    """The cards, so many from at on standing ahead of card to once more."""
    return cards[:to] + cards[at:at + many] + cards[to:]


def place_behind(place, first, out, many):
    """The place behind a change of the pattern's lines."""
    if place.line is None or place.last < first:
        return place
    return place.moved(many - out) if place.line >= first + out else Place()


def with_lines(cards, first, out, many):
    """The cards, out lines of the pattern being taken out from first on, and many put there."""
    row = []
    for place, source, origin in cards:
        behind = place_behind(place, first, out, many)
        row.append((behind, None if behind.line is None else source, origin))
    return row


DOING = {
    "put": with_put,
    "take": with_taken,
    "move": with_moved,
    "one": with_one,
    "twice": with_twice,
    "lines": with_lines,
}


def are_there(turn, many):
    """Whether so many cards are enough for a turn."""
    word, *numbers = turn
    if word == "lines":
        return True
    if word == "put":
        return numbers[0] <= many
    if len(numbers) == 3 and numbers[2] > many:
        return False
    return numbers[0] + numbers[1] <= many


def done(cards, turn):
    """The cards behind one turn, None where it is none or can't be."""
    if not is_turn(turn) or not are_there(turn, len(cards)):
        return None
    word, *rest = turn
    doing = DOING[word]
    try:
        row = doing(cards, *rest)
    except BadPlace:
        return None
    return row if len(row) <= MOST_CARDS else None


def cards_behind(cards, turns):
    """The cards behind all turns, one behind the other."""
    row = list(cards)
    for number, turn in enumerate(turns):
        row = done(row, turn)
        if row is None:
            raise BadTurn(number)
    return row


def turned(places, turns):
    """The places behind all turns."""
    return [place for place, source, origin in cards_behind(first_cards(places), turns)]


def without_lines(turn):
    """The turn, but one that leaves all lines where they are for one of lines."""
    return ("lines", 1, 0, 0) if is_turn(turn) and turn[0] == "lines" else turn


def origins(many, turns):
    """For each card behind all turns the rising list of those of so many first cards from which it comes."""
    # Lines change nothing here, and put cards may have some that would be moved beyond the last one.
    cards = cards_behind(first_cards([Place()] * many), [without_lines(turn) for turn in turns])
    return [list(origin) for place, source, origin in cards]


def lost(places, turns):
    """The rising list of lines that some place has at first, and that no card has kept behind all turns."""
    cards = cards_behind(first_cards(places), turns)
    kept = lines_of([places[source] for place, source, origin in cards if source is not None])
    still = {line: True for line in kept}
    return [line for line in lines_of(places) if line not in still]
