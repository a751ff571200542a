import random
import unittest

from cardlines.entries import entry_bytes
from cardlines.figures import number_bytes
from cardlines.leading import COPIES, HEADS
from cardlines.places import Place
from cardlines.runs import strip_in
from cardlines.tables import tear_of, written
from cardlines.tabletext import table_in, table_text
from tests.document import entry_by_the_document, number_by_the_document
from tests.strips import anothers_table, strip
from tests.things import refusal

MILLION = 10 ** 6
BOUNDS = {
    "none": (), "same": (), "next": (), "line": ((-MILLION, MILLION),),
    "part": ((-MILLION, MILLION), (0, 10 ** 4), (0, 10 ** 4)),
    "long": ((-MILLION, MILLION), (1, 99), (0, 10 ** 4), (0, 10 ** 4)), "copy": ((1, 15), (-MILLION, MILLION)),
}


def text_by_the_document(codes):
    """Point [18]."""
    rows = []
    at = 0
    while at < len(codes):
        if codes[at] == 255:
            card, behind = number_by_the_document(codes, at + 1)
            line, behind = number_by_the_document(codes, behind)
            rows.append(f"{at}: segment {card} {line}")
        else:
            entry, behind = entry_by_the_document(codes, at)
            rows.append(f"{at}: " + " ".join(map(str, entry)))
        at = behind
    return "\n".join(rows)


def entries_at_bounds():
    for word, bounds in BOUNDS.items():
        rows = [()]
        for low, high in bounds:
            rows = [(*row, number) for row in rows for number in (low, low + 1, high)]
        for row in rows:
            for many in (1, 2, 16):
                yield (word, many, *row)


class Text(unittest.TestCase):
    def test_known(self):
        self.assertEqual(table_text([]), "")
        self.assertEqual(table_text([255, 0, 0, 160]), "0: segment 0 0\n3: next 1")
        self.assertEqual(table_text([255, 0, 3, 192, 0, 4, 5]), "0: segment 0 3\n3: part 1 0 4 5")
        codes = written(strip_in("3 - 3.4-9 3.4-5.9 2 2*700"))
        self.assertEqual(table_text(codes), "\n".join([
            "0: segment 0 2", "3: next 1", "4: none 1", "5: part 1 0 4 5", "9: long 1 0 2 4 9", "14: line 1 -1",
            "16: line 2 698"]))

    def test_copies_and_several_segments(self):
        codes = written([Place(line) for line in range(1, 22)])
        self.assertEqual(table_text(codes), "0: segment 0 0\n3: next 1\n4: copy 15 1 1\n7: segment 16 16\n10: next 1\n"
                                            "11: copy 4 1 1")
        codes = [255, 0, 64, 1, 162, 146, 225, 1, 1]
        self.assertIsNone(tear_of(codes))
        self.assertEqual(table_text(codes), "0: segment 0 64\n4: next 3\n5: same 3\n6: copy 2 2 -1")

    def test_tables(self):
        chance = random.Random(90)
        for round_ in range(80):
            if round_ % 2:
                codes = anothers_table(chance)[0]
            else:
                codes = written(strip(chance, chance.randrange(80)), make=chance.choice((COPIES, HEADS)),
                                every=chance.randrange(1, 17))
            self.assertEqual(table_text(codes), text_by_the_document(codes))
            self.assertEqual(table_text(codes=tuple(codes)), table_text(codes))
            self.assertEqual(table_in(table_text(codes)), codes)
            self.assertIs(type(table_in(text=table_text(codes))), list)

    def test_160_cards(self):
        codes = written(strip(random.Random(91), 160), every=2)
        self.assertEqual(table_in(table_text(codes)), codes)

    def test_2000_bytes(self):
        far = [Place(1 + card * 777777 % 999900, 90 + card * 777777 % 999900, begin=5000, end=card) for card in range(160)]
        codes = written(far)
        self.assertTrue(1600 < len(codes) <= 2000)
        self.assertEqual(table_text(codes), text_by_the_document(codes))
        self.assertEqual(table_in(table_text(codes)), codes)
        codes = [code for card in range(0, 2000, 16) for code in [255, *number_bytes(card), 0, 143]]
        self.assertIsNone(tear_of(codes))
        self.assertEqual(table_in(table_text(codes)), codes)


class In(unittest.TestCase):
    def test_known(self):
        self.assertEqual(table_in("0: segment 0 0\n3: next 1"), [255, 0, 0, 160])
        self.assertEqual(table_in("0: segment 0 3\n3: part 1 0 4 5"), [255, 0, 3, 192, 0, 4, 5])
        self.assertEqual(table_in(""), [])

    def test_entries_at_their_bounds(self):
        for entry in entries_at_bounds():
            row = " ".join(map(str, entry))
            self.assertEqual(table_in(f"0: segment 0 0\n3: {row}"), [255, 0, 0] + entry_bytes(entry))

    def test_no_more_is_looked_at(self):
        for text, codes in (
            ("0: segment 7 0", [255, 7, 0]), ("0: segment 0 0\n3: segment 0 0", [255, 0, 0, 255, 0, 0]),
            ("0: segment 1000000 1000000", [255] + number_bytes(MILLION) * 2),
            ("0: segment 0 0\n3: same 1", [255, 0, 0, 144]), ("0: segment 0 0\n3: line 1 -5", [255, 0, 0, 176, 9]),
            ("0: segment 0 0\n3: none 16\n4: none 16", [255, 0, 0, 143, 143]),
            ("0: segment 3 0\n3: none 1\n4: segment 3 1\n7: copy 2 9 -1", [255, 3, 0, 128, 255, 3, 1, 225, 8, 1]),
        ):
            self.assertEqual(table_in(text), codes)

    def test_empty_rows_count_but_tell_nothing(self):
        for text, codes in (("\n", []), ("\n\n0: segment 0 0\n\n\n3: none 1\n", [255, 0, 0, 128])):
            self.assertEqual(table_in(text), codes)
        self.assertEqual(table_in("\n" * 398 + "0: segment 0 0"), [255, 0, 0])
        self.assertEqual(refusal(table_in, "\n\n0: segment 0 0\n\n4: none 1"), ("BadRow", "row", 4))

    def refuses(self, row):
        """As the third of four rows, at byte 4."""
        text = f"0: segment 0 0\n3: next 1\n{row}\n5: none 1"
        self.assertEqual(refusal(table_in, text), ("BadRow", "row", 2), row)

    def test_rows_that_are_not_so_written(self):
        self.assertIsNone(refusal(table_in, "0: segment 0 0\n3: next 1\n4: none 1\n5: none 1"))
        for row in (" ", "4", "4:", "4: ", "4:none 1", "4 none 1", "none 1", ": none 1", "4: none", "4: none ", "4: none  1",
                    "4:  none 1", "4: none 1 ", " 4: none 1", "4: none 1 1", "4: None 1", "4: nothing 1", "4: none one",
                    "4: none 01", "4: none +1", "4: none -1", "4: none 1.0", "4: none 0", "4: none 17", "4: none 1_0",
                    "4: 1 none", "4: none -", "4: none --1", "x: none 1", "-4: none 1", "4.: none 1", "4:: none 1",
                    "4: segment", "4: segment 1", "4: segment 1 2 3", "4: segment  1 2", "4: segment -1 0",
                    "4: segment 0 -1", "4: segment 1000001 0", "4: segment 0 1000001", "4: segment 01 0",
                    "4: segment 1 00", "4: segment x 0", "4: segment 0 0 ", "4: Segment 0 0", "4: segment -0 0",
                    "4: line 1 -0", "4: line 1 +1", "4: line 1 --1", "4: line 1 - 1", "4: line 1 01", "4: line 1 -01",
                    "4: line 1", "4: line 1 99999999999999999999", "4: copy 1 1", "4: long 1 0 1 2", "4: part 1 0 4",
                    "4: same", "4: next"):
            self.refuses(row)

    def test_numbers_beyond_an_entrys_bounds(self):
        for entry in entries_at_bounds():
            for place, (low, high) in enumerate([(1, 16), *BOUNDS[entry[0]]], start=1):
                for number in (low - 1, high + 1):
                    self.refuses("4: " + " ".join(map(str, (*entry[:place], number, *entry[place + 1:]))))

    def test_rows_that_are_not_where_they_tell(self):
        for at in ("3", "5", "0", "04", "4 ", "1000000", "44"):
            self.refuses(f"{at}: none 1")
        for at in ("1", "3", "00", "-0", ""):
            self.assertEqual(refusal(table_in, f"{at}: segment 0 0"), ("BadRow", "row", 0))

    def test_an_entry_ahead_of_any_segment(self):
        for text, row in (("0: none 1", 0), ("\n0: none 1\n1: segment 0 0", 1), ("0: part 1 0 4 5", 0),
                          ("\n\n0: copy 1 1 0", 2)):
            self.assertEqual(refusal(table_in, text), ("BadRow", "row", row))

    def test_the_first_of_several(self):
        self.assertEqual(refusal(table_in, "0: segment 0 0\n3: nine 1\n9: none 1"), ("BadRow", "row", 1))
        self.assertEqual(refusal(table_in, "0: segment 0 0\n4: none 1\n5: nine 1"), ("BadRow", "row", 1))
        rows = ["0: segment 0 0"] + [f"{at}: none 1" for at in range(3, 401)]
        self.assertEqual(len(table_in("\n".join(rows))), 401)
        self.assertEqual(refusal(table_in, "\n".join(rows + ["401 none 1"])), ("BadRow", "row", 399))


if __name__ == "__main__":
    unittest.main()
