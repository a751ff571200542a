"""A strip kept by deeds, which can be taken back and done again."""

from cardlines.errors import NoCard, NoDeed
from cardlines.leading import COPIES, MOST
from cardlines.runs import cards_of as cards_with
from cardlines.runs import lines_of, strip_text
from cardlines.tables import written
from cardlines.turns import cards_behind, first_cards, lost


class Strip:
    """A strip of cards with all deeds that were done to it."""

    def __init__(self, places=(), *, make=COPIES, every=MOST):
        self.make = make
        self.every = every
        # The cards at first and behind each deed that is done; no row of cards is ever changed, so strips may share it.
        self.past = [first_cards(places)]
        self.undone = []
        self.noted = []

    def turn(self, turn):
        """Does a turn; told are the lines that are lost by it."""
        self.noted.append(("in", "turn"))
        try:
            return self.done_all([turn])
        finally:
            self.noted.append(("out", "turn"))

    def turn_all(self, turns):
        """Does all turns as one deed; told are the lines that are lost by them."""
        self.noted.append(("in", "turn_all"))
        try:
            return self.done_all(turns)
        finally:
            self.noted.append(("out", "turn_all"))

    def done_all(self, turns):
        """Does all turns as one deed, or none of them where one is refused."""
        gone = lost(self.places(), turns)
        self.past.append(cards_behind(self.past[-1], turns))
        self.undone.clear()
        return gone

    def back(self):
        """Takes back the last deed that is done; told is whether there is one."""
        self.noted.append(("in", "back"))
        there = len(self.past) > 1
        if there:
            self.undone.append(self.past.pop())
        self.noted.append(("out", "back"))
        return there

    def forth(self):
        """Does the last deed that was taken back again; told is whether there is one."""
        self.noted.append(("in", "forth"))
        there = len(self.undone) > 0
        if there:
            self.past.append(self.undone.pop())
        self.noted.append(("out", "forth"))
        return there

    def log(self):
        """The list of pairs of `in` or `out` and the word of each deed that was begun or has ended."""
        return list(self.noted)

    def is_open(self):
        """Whether no deed is begun that hasn't ended."""
        ways = [way for way, word in self.noted]
        return ways.count("in") == ways.count("out")

    def places(self):
        """The list of the places of all its cards."""
        return [place for place, source, origin in self.past[-1]]

    def card_at(self, number):
        """The card of that number: its place and what else turns.py tells of it."""
        cards = self.past[-1]
        if not 0 <= number < len(cards):
            raise NoCard(number)
        return cards[number]

    def place(self, card):
        """The place of a card."""
        return self.card_at(card)[0]

    def table(self):
        """The table of its places, by its make and every."""
        return written(self.places(), make=self.make, every=self.every)

    def cards_of(self, line):
        """The rising list of pairs (first, last) of cards whose place has that line."""
        return cards_with(self.places(), line)

    def lines(self):
        """The rising list of all lines that some card's place has."""
        return lines_of(self.places())

    def origin(self, card):
        """The rising list of cards of the first strip from which a card comes."""
        return list(self.card_at(card)[2])

    def now_of(self, card):
        """The rising list of the cards that come from a card of the first strip."""
        if not 0 <= card < len(self.past[0]):
            raise NoCard(card)
        return [now for now, (place, source, origin) in enumerate(self.past[-1]) if card in origin]

    def deeds(self):
        """How many deeds are done."""
        return len(self.past) - 1

    def with_deeds(self, past, undone):
        """A Strip of its own, with these cards behind its deeds and behind those to be done again."""
        made = Strip(make=self.make, every=self.every)
        made.past = list(past)
        made.undone = list(undone)
        return made

    def as_told(self, many):
        """A Strip of its own as this one was behind so many of its deeds."""
        if not 0 <= many <= self.deeds():
            raise NoDeed(many)
        return self.with_deeds(self.past[:many + 1], [])

    def twin(self):
        """A Strip of its own with the same deeds, those to be done again too."""
        return self.with_deeds(self.past, self.undone)

    def __len__(self):
        return len(self.past[-1])

    def __eq__(self, other):
        return (isinstance(other, Strip) and self.places() == other.places() and self.make == other.make
                and self.every == other.every)

    def __str__(self):
        return str(strip_text(self.places()))

    def __repr__(self):
        return f"Strip({len(self.past[-1])}, {self.make})"
