import itertools
import re
import unittest

from cardlines.errors import BadText
from cardlines.places import Place
from cardlines.placetext import place_in
from tests.things import fields, forms

NUMBER = "(0|[1-9][0-9]*)"
FORM = re.compile(f"(?:-|{NUMBER}(?:[.]{NUMBER}-(?:{NUMBER}[.])?{NUMBER})?)")


def told_by_the_document(text):
    """The fields of the Place that has this str, None where there is none."""
    found = FORM.fullmatch(text)
    if found is None:
        return None
    line, begin, last, end = [None if part is None else int(part) for part in found.groups()]
    if line is None:
        return (None, None, None, None)
    if not 1 <= line <= 10 ** 6:
        return None
    if begin is None:
        return (line, line, None, None)
    if begin > 10 ** 4 or end > 10 ** 4:
        return None
    if last is None:
        return (line, line, begin, end) if begin <= end else None
    return (line, last, begin, end) if line < last <= min(line + 99, 10 ** 6) else None


class PlaceIn(unittest.TestCase):
    def refused(self, text):
        with self.assertRaises(BadText) as caught:
            place_in(text)
        self.assertEqual(caught.exception.text, text)

    def test_each_form(self):
        for text, wanted in (("-", (None, None, None, None)), ("3", (3, 3, None, None)), ("3.4-9", (3, 3, 4, 9)),
                             ("3.4-5.9", (3, 5, 4, 9)), ("1000000", (10 ** 6, 10 ** 6, None, None)),
                             ("1.10000-100.0", (1, 100, 10000, 0)), ("7.0-0", (7, 7, 0, 0))):
            self.assertEqual(fields(place_in(text)), wanted)
            self.assertEqual(fields(place_in(text=text)), wanted)

    def test_reads_back_every_form(self):
        for place in forms():
            again = place_in(str(place))
            self.assertIsInstance(again, Place)
            self.assertEqual(fields(again), fields(place))

    def test_noughts_signs_blanks_and_line_feeds(self):
        for place in ("3", "3.4-9", "3.4-5.9"):
            for sign in ("0", "+", "-", " ", "\n", "\t", "_", ".", "*", "x"):
                for at in range(len(place) + 1):
                    text = place[:at] + sign + place[at:]
                    if told_by_the_document(text) is None:
                        self.refused(text)
                    else:
                        self.assertEqual(str(place_in(text)), text)
        for text in ("", " ", "\n", "03", "+3", "-3", "--", "- ", " -", "-\n", "3\n", "3.04-9", "3.4-09", "3.4-5.09",
                     "03.4-9", "3.4-05.9", "3_0", "0x3", "3e1", "Place(3)", "None", "nowhere"):
            self.refused(text)

    def test_forms_that_no_place_writes(self):
        for text in ("3.4", "3-5", "3.4-", "3.-9", ".4-9", "3.4-5.", "3.4-.9", "3.4-3.9", "3.4-3", "3.4-2.9", "3-5.9",
                     "3.4.5-9", "3.4-5.6.7", "3.4-9-9", "3.4-5.9-", ".", ".-", ".-.", "-.-", "3.", "3-", "2*3", "3 4"):
            self.refused(text)

    def test_beyond_the_bounds(self):
        for text in ("0", "1000001", "9999999", "10000000", "0.4-9", "3.10001-10001", "3.4-10001", "3.4-103.9",
                     "999950.0-1000001.0", "1000001.0-0", "3.4-5.10001", "3.10001-5.9", "9" * 5000, "1" + "0" * 5000,
                     "3." + "9" * 5000 + "-9", "3.4-" + "9" * 5000, "3.4-" + "9" * 5000 + ".9"):
            self.refused(text)

    def test_figures_that_are_not_the_ten_plain_ones(self):
        for three in ("\u0663", "\uff13", "\u00b3", "\u2462", "\u0969", "\u4e09", "\U0001d7d1"):
            for text in (three, "1" + three, three + ".4-9", "3." + three + "-9", "3.1-" + three, "1.4-" + three + ".9"):
                self.refused(text)
        self.refused("\u2212")
        self.refused("3\u00a0")
        self.refused("3.4\u20139")
        self.refused("\ud800")

    def test_all_short_texts(self):
        for long in range(7):
            for signs in itertools.product("0123.-", repeat=long):
                text = "".join(signs)
                try:
                    told = fields(place_in(text))
                except BadText as refused:
                    told = None
                    self.assertEqual(refused.text, text)
                if told != told_by_the_document(text):
                    self.fail(f"{text!r} told {told}")


if __name__ == "__main__":
    unittest.main()
