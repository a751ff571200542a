"""A desk: sheets of rows that turn one strip and ask of it."""

from cardlines.errors import BadRow, BadText, BadTurn, NoCard
from cardlines.hexes import hex_text
from cardlines.leading import COPIES
from cardlines.plain import is_number, number_in
from cardlines.runs import strip_in
from cardlines.strip import Strip
from cardlines.turns import is_turn

NOTHING = "-"
GREATEST = 10 ** 6
TURNS = ("put", "take", "move", "one", "twice", "lines")
# The least number behind each word that has just one.
LEAST = {"place": 0, "cards": 1, "origin": 0}
BARE = ("back", "forth", "strip", "bytes", "table", "deeds")


def put_in(rest):
    """What is put by the text behind its word, be it a turn or not."""
    at, blank, text = rest.partition(" ")
    try:
        return ("put", number_in(at), tuple(strip_in(text)))
    except BadText:
        return None


def turn_in(word, rest):
    """The turn that a word and the text behind it tell, None where they tell none."""
    numbers = [number_in(part) for part in rest.split(" ")]
    thing = put_in(rest) if word == "put" else (word, *numbers)
    return thing if is_turn(thing) else None


def row_in(row):
    """The pair of a row's word, `turn` for all turns, and the turn or number behind it; None of any other row."""
    word, blank, rest = row.partition(" ")
    if word in TURNS:
        turn = turn_in(word, rest)
        return None if turn is None else ("turn", turn)
    if word in LEAST:
        number = number_in(rest)
        return (word, number) if is_number(number, LEAST[word], GREATEST) else None
    return (row, None) if row in BARE else None


def sheet_in(text):
    """The list of pairs that all rows of a sheet but the empty ones tell."""
    told = []
    for number, row in enumerate(text.split("\n")):
        if row == "":
            continue
        pair = row_in(row)
        if pair is None:
            raise BadRow(number)
        told.append(pair)
    return told


def or_nothing(text):
    """The text, `-` where there is nothing in it."""
    return NOTHING if text == "" else text


def listed(parts):
    """The parts parted by blanks, `-` where there are none."""
    return or_nothing(" ".join([str(part) for part in parts]))


def yes_or_no(truth):
    """The word of a truth."""
    return "yes" if truth else "no"


def answer_of_turn(strip, turn):
    """The lines that are lost by a turn."""
    return listed(strip.turn(turn))


def answer_of_back(strip, nothing):
    """Whether a deed was taken back."""
    return yes_or_no(strip.back())


def answer_of_forth(strip, nothing):
    """Whether a deed was done again."""
    return yes_or_no(strip.forth())


def answer_of_strip(strip, nothing):
    """The strip's text."""
    return or_nothing(str(strip))


def answer_of_place(strip, card):
    """The place of a card."""
    return str(strip.place(card))


def answer_of_cards(strip, line):
    """The cards of a line."""
    return listed([f"{first}-{last}" for first, last in strip.cards_of(line)])


def answer_of_bytes(strip, nothing):
    """How many bytes the table has."""
    return str(len(strip.table()))


def answer_of_table(strip, nothing):
    """The bytes of the table."""
    return or_nothing(hex_text(strip.table()).replace("\n", " / "))


def answer_of_origin(strip, card):
    """The cards of the first strip from which a card comes."""
    return listed(strip.origin(card))


def answer_of_deeds(strip, nothing):
    """How many deeds are done."""
    return str(strip.deeds())


ANSWERS = {
    "turn": answer_of_turn,
    "back": answer_of_back,
    "forth": answer_of_forth,
    "strip": answer_of_strip,
    "place": answer_of_place,
    "cards": answer_of_cards,
    "bytes": answer_of_bytes,
    "table": answer_of_table,
    "origin": answer_of_origin,
    "deeds": answer_of_deeds,
}


def answer(strip, word, told):
    """The answer to one row."""
    ask = ANSWERS[word]
    try:
        return ask(strip, told)
    except BadTurn:
        return "refused BadTurn"
    except NoCard:
        return "refused NoCard"


def answers(text, *, make=COPIES):
    """The list of answers to the rows of a sheet, done to one Strip of that make."""
    sheet = sheet_in(text)
    strip = Strip(make=make)
    return [answer(strip, word, told) for word, told in sheet]
