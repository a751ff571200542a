"""The refusals of the program, each with the one field that tells what was refused."""


class BadPlace(ValueError):
    """No Place can be made so; part is the word of the first thing that is wrong."""

    def __init__(self, part):
        ValueError.__init__(self, f"no place has such a {part}")
        self.part = part


class BadText(ValueError):
    """The text is not written as the program writes such things."""

    def __init__(self, text):
        ValueError.__init__(self, f"not so written: {text!r}")
        self.text = text


class BadRow(ValueError):
    """A row of a text is not so written; row is its number."""

    def __init__(self, row):
        ValueError.__init__(self, f"row {row} is not so written")
        self.row = row


class Torn(ValueError):
    """Bytes can't be read on; at is the place of the first byte that can't stand."""

    def __init__(self, at):
        ValueError.__init__(self, f"torn at byte {at}")
        self.at = at


class Broken(ValueError):
    """A block doesn't fit its seal; at is the block's place."""

    def __init__(self, at):
        ValueError.__init__(self, f"the block at byte {at} is broken")
        self.at = at


class BadEntry(ValueError):
    """An entry of a row can't stand; number is its number."""

    def __init__(self, number):
        ValueError.__init__(self, f"entry {number} can't stand")
        self.number = number


class BadTurn(ValueError):
    """A turn of a list can't be done; number is its number."""

    def __init__(self, number):
        ValueError.__init__(self, f"turn {number} can't be done")
        self.number = number


class NoCard(IndexError):
    """There is no card of that number."""

    def __init__(self, card):
        IndexError.__init__(self, f"there is no card {card}")
        self.card = card


class NoDeed(LookupError):
    """There weren't so many deeds."""

    def __init__(self, many):
        LookupError.__init__(self, f"there weren't {many} deeds")
        self.many = many


class NoRoom(OverflowError):
    """A card's place has no room in the make of table that was asked for."""

    def __init__(self, card):
        OverflowError.__init__(self, f"there is no room for card {card}")
        self.card = card
