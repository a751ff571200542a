import random
import unittest

from cardlines.hexes import hex_in, hex_text
from tests.things import refusal


def some(many):
    chance = random.Random(many)
    return [chance.randrange(256) for code in range(many)]


class Text(unittest.TestCase):
    def test_known(self):
        self.assertEqual(hex_text([]), "")
        self.assertEqual(hex_text([0]), "00")
        self.assertEqual(hex_text([255]), "ff")
        self.assertEqual(hex_text([10, 160, 9, 144]), "0a a0 09 90")
        self.assertEqual(hex_text(range(16)), "00 01 02 03 04 05 06 07 08 09 0a 0b 0c 0d 0e 0f")
        self.assertEqual(hex_text(list(range(17))), "00 01 02 03 04 05 06 07 08 09 0a 0b 0c 0d 0e 0f\n10")

    def test_all_bytes(self):
        for code in range(256):
            self.assertEqual(hex_text([code]), "0123456789abcdef"[code // 16] + "0123456789abcdef"[code % 16])
            self.assertEqual(hex_in(hex_text((code,))), [code])

    def test_rows_of_sixteen(self):
        for many in (1, 15, 16, 17, 31, 32, 33, 2000):
            codes = some(many)
            rows = hex_text(codes).split("\n")
            self.assertEqual([len(row.split(" ")) for row in rows], [16] * (many // 16) + [many % 16] * (many % 16 > 0))
            self.assertEqual([int(word, 16) for row in rows for word in row.split(" ")], codes)
            self.assertEqual(hex_text(codes=tuple(codes)), hex_text(codes))
            self.assertEqual(hex_in(hex_text(codes)), codes)
            self.assertIs(type(hex_in(text=hex_text(codes))), list)
        self.assertEqual(hex_in(hex_text([])), [])


class In(unittest.TestCase):
    def test_any_number_in_a_row(self):
        codes = some(2000)
        for wide in (1, 2, 7, 17, 64, 100):
            rows = [" ".join([f"{code:02x}" for code in codes[at:at + wide]]) for at in range(0, 2000, wide)]
            self.assertEqual(hex_in("\n".join(rows[:400])), codes[:400 * wide])
        self.assertEqual(hex_in("0a ff\n00\n01 02 03"), [10, 255, 0, 1, 2, 3])

    def test_empty_rows_are_passed_over(self):
        for text, codes in (("", []), ("\n", []), ("\n\n\n", []), ("\n0a", [10]), ("0a\n", [10]), ("0a\n\n\n0b\n", [10, 11])):
            self.assertEqual(hex_in(text), codes)
        self.assertEqual(hex_in("\n" * 399), [])

    def test_rows_that_are_not_so_written(self):
        for row in (" ", "0", "g0", "0g", "0A", "FF", "000", "0a ", " 0a", "0a  0b", "0a0b", "0x", "-1", "0a,0b", "0a b",
                    "a", "0a 0b 0", "+1", "1_", "0a\t0b", "0a/0b", "  ", "0.", "0~", "0b1"):
            self.assertEqual(refusal(hex_in, row), ("BadRow", "row", 0), row)
            self.assertEqual(refusal(hex_in, f"0a\n\n{row}\n0b"), ("BadRow", "row", 2), row)
            self.assertEqual(refusal(hex_in, f"\n{row}\n{row}"), ("BadRow", "row", 1), row)

    def test_the_first_of_several(self):
        self.assertEqual(refusal(hex_in, "0a\nzz\n0b\nzz"), ("BadRow", "row", 1))
        self.assertEqual(refusal(hex_in, "0a\n" * 399 + "x"), ("BadRow", "row", 399))


if __name__ == "__main__":
    unittest.main()
