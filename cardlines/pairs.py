"""Pair tables: a plainer make, of two bytes for each entry, how many cards and a step."""

from cardlines.errors import NoRoom, Torn
from cardlines.places import Place
from cardlines.plain import LAST_LINE
from cardlines.runs import runs_of

MOST_OF_A_PAIR = 255
# The step that stays on the line ahead; also how far one step goes, either way.
STILL = 100
FARTHEST = 200
NOWHERE = 201


def hops(far):
    """The pair of the bytes that bring the line ahead near enough to one so far off, and the step that is left."""
    codes = []
    left = far
    while left > STILL:
        codes.extend([0, FARTHEST])
        left -= STILL
    while left < -STILL:
        codes.extend([0, 0])
        left += STILL
    return (codes, left + STILL)


def run_bytes(many, step, further):
    """The bytes of so many cards, the first ones by this step, all further ones by the other."""
    codes = [min(many, MOST_OF_A_PAIR), step]
    rest = many - MOST_OF_A_PAIR
    while rest > 0:
        codes.extend([min(rest, MOST_OF_A_PAIR), further])
        rest -= MOST_OF_A_PAIR
    return codes


def pairs_written(places, *, line=0):
    """The pair table of places without columns, with a told line ahead."""
    for card, place in enumerate(places):
        if place.begin is not None:
            raise NoRoom(card)
    codes = []
    ahead = line
    for many, place in runs_of(places):
        if place.line is None:
            codes.extend(run_bytes(many, NOWHERE, NOWHERE))
            continue
        far, step = hops(place.line - ahead)
        codes.extend(far + run_bytes(many, step, STILL))
        ahead = place.line
    return codes


def cards_of_pair(many, step, ahead):
    """The places of an entry's cards, by the line ahead behind it."""
    # Without cards the line ahead may be beyond all lines.
    if many == 0:
        return []
    return [Place() if step == NOWHERE else Place(ahead)] * many


def pairs_read(codes, *, line=0):
    """The list of Places to which a pair table leads, with a told line ahead."""
    places = []
    ahead = line
    for at in range(0, len(codes) - 1, 2):
        many = codes[at]
        step = codes[at + 1]
        if step > NOWHERE or (step == NOWHERE and many == 0):
            raise Torn(at + 1)
        if step < NOWHERE:
            ahead += step - STILL
            if many > 0 and not 1 <= ahead <= LAST_LINE:
                raise Torn(at)
        places.extend(cards_of_pair(many, step, ahead))
    if len(codes) % 2 == 1:
        raise Torn(len(codes))
    return places


def pairs_back(codes, line):
    """The pair of a pair table's places, from the last to the first, and its first line ahead, by the one behind it."""
    places = []
    ahead = line
    for at in reversed(list(range(0, len(codes) - 1, 2))):
        step = codes[at + 1]
        places.extend(cards_of_pair(codes[at], step, ahead))
        if step < NOWHERE:
            ahead -= step - STILL
    return (places, ahead)
