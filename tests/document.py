"""Readings of the document made anew, beside which the program is tested; none of them leans on the file it tests."""

from cardlines.entries import entry_bytes
from cardlines.errors import BadPlace
from cardlines.places import Place

NOWHERE = Place()


def led_by_the_document(entries, line, ahead=()):
    """Point [8], card by card: the pair (places, line ahead), or the number of the entry that can't stand."""
    told = list(ahead)
    first = None
    for number, (word, many, *rest) in enumerate(entries):
        for card in range(many):
            try:
                if word == "none":
                    place = NOWHERE
                elif word in ("same", "copy"):
                    back, shift = rest or (1, 0)
                    if len(told) - card < back:
                        return number
                    place = told[len(told) - back].moved(shift)
                elif card > 0:
                    place = told[-1]
                else:
                    first = line + (rest[0] if rest else 1)
                    columns = {"next": (), "line": (), "part": rest[1:], "long": rest[2:]}[word]
                    if word == "part":
                        columns = (columns[0], sum(columns))
                    last = first + rest[1] if word == "long" else first
                    place = Place(first, last, **dict(zip(("begin", "end"), columns)))
            except BadPlace:
                return number
            told.append(place)
            line = line if place.line is None else place.line
    return told, line


def entries_about(places, line, make):
    """Entries of one card, of all numbers that may matter where these places are led to; most lead elsewhere."""
    with_line = [place for place in places if place.line is not None]
    lines = sorted({line, *[place.line for place in with_line]})
    steps = sorted({-1, 0, 1, *[one - other for one in lines for other in lines]})
    begins = sorted({place.begin for place in with_line if place.begin is not None})
    ends = sorted({place.end for place in with_line if place.end is not None})
    more = sorted({place.last - place.line for place in with_line if place.last > place.line})
    found = [("none", 1), ("same", 1), ("next", 1)]
    found += [("line", 1, step) for step in steps]
    found += [("part", 1, step, begin, end - begin)
              for step in steps for begin in begins for end in ends if end >= begin]
    found += [("long", 1, step, lines_more, begin, end)
              for step in steps for lines_more in more for begin in begins for end in ends]
    if make == "copies":
        found += [("copy", 1, back, shift) for back in range(1, min(15, len(places)) + 1)
                  for shift in sorted({*steps, 32, -33, -10 ** 6, 10 ** 6})]
    return found


def entries_on(places, line, make):
    """For each number of first cards the entries, of numbers that may matter, that lead on from there to these places."""
    places = list(places)
    about = entries_about(places, line, make)
    found = []
    for card in range(len(places)):
        found.append([])
        for word, one, *rest in about:
            # An entry of more cards leads its first ones to where one of fewer does.
            for many in range(1, min(16, len(places) - card) + 1):
                told = led_by_the_document([(word, many, *rest)], line, places[:card])
                if isinstance(told, int) or told[0] != places[:card + many]:
                    break
                found[-1].append((word, many, *rest))
        line = line if places[card].line is None else places[card].line
    return found


def rows_to(places, line, make):
    """All rows of entries that lead to these places, of those whose numbers may matter."""
    on = entries_on(places, line, make)
    rows = {len(places): [[]]}
    for card in reversed(range(len(places))):
        rows[card] = [[entry] + rest for entry in on[card] for rest in rows[card + entry[1]]]
    return rows[0]


def bytes_of(entries):
    return [code for entry in entries for code in entry_bytes(entry)]


def first_rows(places, line, make):
    """For each number of first cards the first of the shortest bytes that lead to them, found from the front on."""
    best = [[]] + [None] * len(places)
    for card, entries in enumerate(entries_on(places, line, make)):
        for entry in entries:
            codes = best[card] + entry_bytes(entry)
            behind = card + entry[1]
            if best[behind] is None or (len(codes), codes) < (len(best[behind]), best[behind]):
                best[behind] = codes
    return best


def figures_by_the_document(number):
    """Point [6]."""
    figures = []
    while True:
        number, figure = divmod(number, 64)
        figures.append(figure + (64 if number else 0))
        if not number:
            return figures


def number_by_the_document(codes, at):
    """Point [6], by all ways in which four figures may stand: (number, behind), or the byte that can't stand."""
    for place in range(at, at + 4):
        if place == len(codes):
            return place
        if codes[place] > 127 or (place == at + 3 and codes[place] > 63):
            return place
        if codes[place] < 64:
            number = sum((code % 64) * 64 ** power for power, code in enumerate(codes[at:place + 1]))
            return place if figures_by_the_document(number) != list(codes[at:place + 1]) else (number, place + 1)


KINDS = (
    ("none", ()), ("same", ()), ("next", ()), ("line", ("step",)), ("part", ("step", "column", "column")),
    ("long", ("step", "more", "column", "column")), ("copy", ("back", "step")),
)
WRITTEN_LESS = {"step": 0, "column": 0, "more": 1, "back": 1}
GREATEST = {"step": 10 ** 6, "column": 10 ** 4, "more": 99, "back": 15}


def entry_by_the_document(codes, at):
    """Point [7]: (entry, behind), or the byte that can't stand."""
    if at >= len(codes) or codes[at] not in range(128, 240):
        return at
    word, names = KINDS[(codes[at] - 128) // 16]
    entry = (word, codes[at] % 16 + 1)
    behind = at + 1
    for name in names:
        told = number_by_the_document(codes, behind)
        if isinstance(told, int):
            return told
        number = told[0] + WRITTEN_LESS[name]
        if name == "step":
            number = -(number + 1) // 2 if number % 2 else number // 2
        if abs(number) > GREATEST[name]:
            return behind
        entry += (number,)
        behind = told[1]
    return entry, behind


def segment_by_the_document(codes, at, card=None):
    """Point [10]: (first card, places, behind) of the segment at that byte, or the byte at which it can't go on."""
    if codes[at] != 255:
        return at
    first = number_by_the_document(codes, at + 1)
    if isinstance(first, int):
        return first
    if card not in (None, first[0]):
        return at + 1
    line = number_by_the_document(codes, first[1])
    if isinstance(line, int):
        return line
    if line[0] > 10 ** 6:
        return first[1]
    behind = line[1]
    entries = []
    while behind < len(codes) and codes[behind] != 255:
        told = entry_by_the_document(codes, behind)
        if isinstance(told, int):
            return told
        entries.append(told[0])
        leads = led_by_the_document(entries, line[0])
        if isinstance(leads, int) or len(leads[0]) > 16:
            return behind
        behind = told[1]
    if not entries:
        return behind
    return first[0], led_by_the_document(entries, line[0])[0], behind


def table_by_the_document(codes):
    """Point [10]: the list of (card, at, places) of a table's segments, or the byte at which it can't go on."""
    at = 0
    card = 0
    segments = []
    while at < len(codes):
        told = segment_by_the_document(codes, at, card)
        if isinstance(told, int):
            return told
        segments.append((card, at, told[1]))
        card += len(told[1])
        at = told[2]
    return segments


def saved_by_the_document(codes):
    """Point [11]: (at, card, places) of each 255 from which on to ahead of the next one there is just a segment."""
    codes = list(codes)
    marks = [at for at, code in enumerate(codes) if code == 255]
    told = []
    for at, end in zip(marks, marks[1:] + [len(codes)]):
        segment = segment_by_the_document(codes[at:end], 0)
        if isinstance(segment, tuple):
            told.append((at, segment[0], segment[1]))
    return told


def read_from_by_the_document(codes, at, segments):
    """Point [11], of bytes, a place among them, and what is saved of them."""
    right = {mark: (card, places) for mark, card, places in segments}
    card = None
    row = []
    for mark in [mark for mark, code in enumerate(codes) if code == 255 and mark >= at]:
        if mark not in right or right[mark][0] != (right[mark][0] if card is None else card + len(row)):
            break
        card = right[mark][0] if card is None else card
        row += right[mark][1]
    return card, row


def lines_by_the_document(place):
    return set() if place.line is None else set(range(place.line, place.last + 1))


def place_by_the_document(place, first, out, many):
    """Point [14], of the turn lines: the place then, None where it would be moved beyond [3]."""
    lines = lines_by_the_document(place)
    if all(line < first for line in lines):
        return place
    if all(line > first + out - 1 for line in lines):
        return place.moved(many - out) if max(lines) + many - out <= 10 ** 6 else None
    return NOWHERE


class Card:
    """A card that is turned: its place, the first cards from which it comes, the first lines that it keeps."""

    def __init__(self, place, came=(), keeps=()):
        self.place = place
        self.came = set(came)
        self.keeps = set(keeps)

    def again(self):
        return Card(self.place, self.came, self.keeps)


def group_by_the_document(group):
    """Point [14]: the card that these become."""
    chosen = ([card for card in group if card.place != NOWHERE] or [Card(NOWHERE)])[0].again()
    for card in group:
        chosen.came |= card.came
    return chosen


def step_by_the_document(cards, turn):
    """Point [14]: does one turn to a list of cards; told is whether it can be."""
    word, at, *rest = turn
    if word == "lines":
        for card in cards:
            card.place = place_by_the_document(card.place, at, *rest)
            if card.place is None:
                return False
            if card.place == NOWHERE:
                card.keeps = set()
        return True
    if word == "put":
        if at not in range(len(cards) + 1):
            return False
        for place in reversed(rest[0]):
            cards.insert(at, Card(place))
        return len(cards) <= 160
    many, *to = rest
    if at + many - 1 not in range(len(cards)) or (to and to[0] not in range(len(cards) + 1)):
        return False
    group = cards[at:at + many]
    end = Card(NOWHERE)
    mark = (cards + [end])[to[0]] if to else None
    if word == "twice":
        where = to[0]
        for card in reversed(group):
            cards.insert(where, card.again())
        return len(cards) <= 160
    if word == "move" and mark in group:
        return True
    for card in group:
        cards.remove(card)
    if word == "one":
        cards.insert(at, group_by_the_document(group))
    if word == "move":
        cards.append(end)
        for card in group:
            cards.insert(cards.index(mark), card)
        cards.remove(end)
    return True


def turned_by_the_document(places, turns):
    """Point [14]: (places, origins, lost lines) behind these turns, or the number of the first that can't be."""
    cards = [Card(place, [number], lines_by_the_document(place)) for number, place in enumerate(places)]
    for number, turn in enumerate(turns):
        if not step_by_the_document(cards, turn):
            return number
    first = {line for place in places for line in lines_by_the_document(place)}
    kept = {line for card in cards for line in card.keeps}
    return [card.place for card in cards], [sorted(card.came) for card in cards], sorted(first - kept)
