import random
import unittest

from cardlines.desk import answers
from cardlines.leading import COPIES, HEADS
from cardlines.runs import cards_of, strip_text
from cardlines.tables import written
from tests.document import turned_by_the_document
from tests.strips import any_turn
from tests.things import refusal

MILLION = 10 ** 6


def sheet(*rows):
    return "\n".join(rows)


def row_of(turn):
    """The row of a sheet that tells a turn."""
    word, at, *rest = turn
    return f"put {at} {strip_text(rest[0])}" if word == "put" else " ".join(map(str, turn))


class Beside:
    """Point [19] by the document, from the turns that are done."""

    def __init__(self, make):
        self.make = make
        self.done = []
        self.undone = []

    def places(self):
        return turned_by_the_document([], self.done)[0]

    def turn(self, turn):
        told = turned_by_the_document(self.places(), [turn])
        if isinstance(told, int):
            return "refused BadTurn"
        self.done.append(turn)
        self.undone = []
        return " ".join(map(str, told[2])) or "-"

    def shift(self, word):
        source, target = (self.done, self.undone) if word == "back" else (self.undone, self.done)
        if not source:
            return "no"
        target.append(source.pop())
        return "yes"

    def ask(self, word, number):
        places = self.places()
        codes = written(places, make=self.make)
        if word in ("place", "origin"):
            if number >= len(places):
                return "refused NoCard"
            return str(places[number]) if word == "place" else "-"
        words = [f"{code:02x}" for code in codes]
        return {
            "strip": lambda: strip_text(places) or "-",
            "cards": lambda: " ".join(f"{first}-{last}" for first, last in cards_of(places, number)) or "-",
            "bytes": lambda: str(len(codes)),
            "table": lambda: " / ".join(" ".join(words[at:at + 16]) for at in range(0, len(words), 16)) or "-",
            "deeds": lambda: str(len(self.done)),
        }[word]()


class Answers(unittest.TestCase):
    def tells(self, rows, wanted, **named):
        told = answers(sheet(*rows), **named)
        self.assertIs(type(told), list)
        self.assertEqual(told, list(wanted))
        self.assertEqual(answers(text=sheet(*rows), **named), told)

    def test_none(self):
        for text in ("", "\n", "\n\n\n"):
            self.assertEqual(answers(text), [])

    def test_turns(self):
        self.tells(["put 0 1 2*- 3.4-9", "strip"], ["-", "1 2*- 3.4-9"])
        self.tells(["put 0 1 2 3", "take 1 1", "strip"], ["-", "2", "1 3"])
        self.tells(["put 0 1 2 3", "take 0 3", "strip"], ["-", "1 2 3", "-"])
        self.tells(["put 0 1 2 3", "move 0 1 3", "strip", "move 1 2 0", "strip"], ["-", "-", "2 3 1", "-", "3 1 2"])
        self.tells(["put 0 1 2 3", "move 0 1 0", "move 0 1 1", "strip"], ["-", "-", "-", "1 2 3"])
        self.tells(["put 0 1 2 3", "one 0 2", "strip"], ["-", "2", "1 3"])
        self.tells(["put 0 1 2 3", "twice 0 2 1", "strip"], ["-", "-", "2*1 2*2 3"])
        self.tells(["put 0 5.1-7.2 9", "lines 6 1 0", "strip"], ["-", "5 6 7", "- 8"])
        self.tells(["put 0 5", "lines 1 0 0", "lines 1 0 5", "lines 1 10 0", "strip"], ["-", "-", "-", "10", "-"])
        self.tells(["put 0 3", "put 1 4", "put 0 -", "strip"], ["-", "-", "-", "- 3 4"])

    def test_back_and_forth(self):
        self.tells(["back", "forth", "put 0 3", "back", "strip", "back", "forth", "strip", "forth"],
                   ["no", "no", "-", "yes", "-", "no", "yes", "3", "no"])
        self.tells(["put 0 3", "back", "take 0 1", "forth", "strip"], ["-", "yes", "refused BadTurn", "yes", "3"])
        self.tells(["put 0 3", "back", "put 0 4", "forth", "strip"], ["-", "yes", "-", "no", "4"])

    def test_refused(self):
        self.tells(["take 0 1", "put 1 3", "one 0 2", "twice 0 1 0", "move 0 1 0", "strip", "deeds"],
                   ["refused BadTurn"] * 5 + ["-", "0"])
        self.tells(["put 0 160*3", "put 0 3", "twice 0 1 0", "take 160 1", "deeds"],
                   ["-"] + ["refused BadTurn"] * 3 + ["1"])
        self.tells(["put 0 1000000", "lines 1 0 1", "lines 1000000 1000000 1000000", "strip"],
                   ["-", "refused BadTurn", "1000000", "-"])
        self.tells(["place 0", "origin 0", "put 0 3", "place 1", "origin 1", "place 1000000"],
                   ["refused NoCard", "refused NoCard", "-", "refused NoCard", "refused NoCard", "refused NoCard"])

    def test_asks(self):
        ahead = "put 0 3 2*- 3.4-5.9 2*3"
        self.tells([ahead, "strip"], ["-", "3 2*- 3.4-5.9 2*3"])
        self.tells([ahead, "place 0", "place 1", "place 3", "place 5"], ["-", "3", "-", "3.4-5.9", "3"])
        self.tells([ahead, "cards 3", "cards 4", "cards 5", "cards 6", "cards 1000000"],
                   ["-", "0-0 3-5", "3-3", "3-3", "-", "-"])
        self.tells(["put 0 3 -", "bytes", "table", "deeds"], ["-", "5", "ff 00 02 a0 80", "1"])
        self.tells(["origin 0", ahead, "origin 0", "origin 5", "origin 6"],
                   ["refused NoCard", "-", "-", "-", "refused NoCard"])
        self.tells(["strip", "bytes", "table", "deeds", "cards 1"], ["-", "0", "-", "0", "-"])
        self.tells([ahead, "deeds", "back", "deeds", "forth", "deeds", "take 9 9", "deeds"],
                   ["-", "1", "yes", "0", "yes", "1", "refused BadTurn", "1"])

    def test_makes(self):
        rising = "put 0 " + " ".join([str(line) for line in range(1, 21)])
        copies = "ff 00 00 a0 ee 00 02 ff 10 10 a0 a0 a0 a0"
        heads = "ff 00 00" + " a0" * 13 + " / " + "a0 a0 a0 ff 10 10 a0 a0 a0 a0"
        self.tells([rising, "table", "bytes"], ["-", copies, "14"])
        self.tells([rising, "table", "bytes"], ["-", copies, "14"], make="copies")
        self.tells([rising, "table", "bytes"], ["-", heads, "26"], make=HEADS)
        with self.assertRaises(TypeError):
            answers("", COPIES)

    def test_empty_rows_are_passed_over(self):
        self.assertEqual(answers("\n\nput 0 3\n\n\nstrip\n"), ["-", "3"])

    def test_beside_the_document(self):
        chance = random.Random(95)
        for round_ in range(30):
            make = chance.choice((COPIES, HEADS))
            beside = Beside(make)
            rows = []
            wanted = []
            for deed in range(30):
                if chance.randrange(3):
                    if chance.randrange(3):
                        turn = any_turn(chance, len(beside.places()))
                        rows.append(row_of(turn))
                        wanted.append(beside.turn(turn))
                    else:
                        word = chance.choice(("back", "forth"))
                        rows.append(word)
                        wanted.append(beside.shift(word))
                    continue
                word = chance.choice(("strip", "place", "cards", "bytes", "table", "origin", "deeds"))
                number = chance.choice((0, 1, 2, 5)) + (word == "cards")
                rows.append(f"{word} {number}" if word in ("place", "cards", "origin") else word)
                wanted.append(beside.ask(word, number))
                rows += [""] * chance.randrange(2)
            self.tells(rows, wanted, make=make)

    def test_400_rows(self):
        rows = ["put 0 3 4", "back"] * 140 + ["put 0 158*7 5 6"] + ["strip"] * 119
        wanted = ["-", "yes"] * 140 + ["-"] + ["158*7 5 6"] * 119
        self.tells(rows, wanted)
        rows = ["put 0 -"] * 120 + ["deeds"] * 280
        self.tells(rows, ["-"] * 120 + ["120"] * 280)
        parts = " ".join([f"{line}.{line}-{line + 1}.0" for line in range(1000, 1016)])
        self.tells([f"put 0 {parts}", "strip", "take 0 16"],
                   ["-", parts, " ".join([str(line) for line in range(1000, 1017)])])

    def test_sheets_start_anew(self):
        self.assertEqual(answers("put 0 3\nstrip"), answers("put 0 3\nstrip"))
        answers("put 0 3").append("bent")
        self.assertEqual(answers("put 0 3"), ["-"])


class Refused(unittest.TestCase):
    def refuses(self, row):
        self.assertEqual(refusal(answers, row), ("BadRow", "row", 0), row)
        self.assertEqual(refusal(answers, f"put 0 3\n\n{row}\nstrip"), ("BadRow", "row", 2), row)
        self.assertEqual(refusal(answers, f"take 9 9\n{row}\n{row}", make=HEADS), ("BadRow", "row", 1), row)

    def test_words_that_there_are_not(self):
        for row in ("puts 0 3", "Put 0 3", "turn", "turn 0", "nothing", "-", "3", "yes", "all", "places", "Strip", "lost",
                    "twin", "log", "#", "take", "place", "cards", "origin", "put", "move", "one", "twice", "lines"):
            self.refuses(row)

    def test_too_many_or_too_few_words(self):
        for row in ("strip 0", "bytes 1", "table 1", "deeds 1", "back 1", "forth 1", "place 1 1", "cards 1 1", "origin 0 0",
                    "put 0", "take 0", "take 0 1 1", "move 0 1", "move 0 1 1 1", "one 0", "one 0 2 2", "twice 0 1",
                    "twice 0 1 1 1", "lines 1 0", "lines 1 0 0 0"):
            self.refuses(row)

    def test_blanks_too_many(self):
        for row in (" ", "  ", " strip", "strip ", "back ", " forth", "place  0", "place 0 ", " place 0", "cards  1",
                    "put  0 3", "put 0  3", "put 0 3 ", "put 0 ", "put 0 3  4", "take  0 1", "take 0  1", "take 0 1 ",
                    "move 0 1  1", "one 0 2 ", "twice 0  1 1", "lines 1 0 0 ", " lines 1 0 0", "take\t0 1"):
            self.refuses(row)

    def test_numbers_not_so_written(self):
        for bad in ("00", "01", "+1", "-1", "1.0", "1_0", "x", "", "-", "1000001", "10000000", "9" * 30, "0x1", "1e3"):
            for row in (f"place {bad}", f"cards {bad}", f"origin {bad}", f"put {bad} 3", f"take {bad} 1", f"take 0 {bad}",
                        f"move {bad} 1 0", f"move 0 {bad} 0", f"move 0 1 {bad}", f"one {bad} 2", f"one 0 {bad}",
                        f"twice {bad} 1 0", f"twice 0 {bad} 0", f"twice 0 1 {bad}", f"lines {bad} 0 0",
                        f"lines 1 {bad} 0", f"lines 1 0 {bad}"):
                self.refuses(row)

    def test_numbers_below_their_bounds(self):
        for row in ("take 0 0", "move 0 0 0", "one 0 0", "one 0 1", "twice 0 0 0", "lines 0 0 0", "lines 0 1 1", "cards 0"):
            self.refuses(row)

    def test_numbers_at_their_bounds(self):
        for row in ("place 0", "place 1000000", "origin 0", "origin 1000000", "cards 1", "cards 1000000", "put 1000000 3",
                    "take 1000000 1000000", "move 1000000 1000000 0", "move 0 1000000 1000000", "one 1000000 1000000",
                    "one 0 2", "twice 1000000 1000000 1000000", "lines 1 0 0", "lines 1000000 1000000 1000000"):
            self.assertIsNone(refusal(answers, row), row)

    def test_a_move_within_itself(self):
        for row in ("move 0 2 1", "move 5 3 6", "move 5 3 7", "move 0 1000000 999999"):
            self.refuses(row)
        for row in ("move 5 3 5", "move 5 3 8", "move 5 3 4", "move 5 3 9"):
            self.assertEqual(answers(row), ["refused BadTurn"])
        self.assertEqual(answers("put 0 5*3\ntwice 0 3 1\nstrip"), ["-", "-", "8*3"])

    def test_strips_not_so_written(self):
        for text in ("3 3", "1*3", "0*3", "161*3", "3.4", "3.4-3.9", "3.9-4", "03", "0", "1000001", "3,4", "*3", "3*", "2*",
                     "x", "2*3 3", "80*3 81*4", "--", "- -"):
            self.refuses(f"put 0 {text}")
        for text in ("160*3", "2*-", "3.4-9 3.4-5.9", "80*3 80*4"):
            self.assertEqual(answers(f"put 0 {text}\nstrip"), ["-", text])

    def test_ahead_of_all(self):
        self.assertEqual(refusal(answers, "take 9 9\nplace 9\nnothing"), ("BadRow", "row", 2))
        self.assertEqual(refusal(answers, "\n\n\nnothing\nnothing"), ("BadRow", "row", 3))
        self.assertEqual(refusal(answers, "put 0 3\n" * 399 + "x"), ("BadRow", "row", 399))


if __name__ == "__main__":
    unittest.main()
