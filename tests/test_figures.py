import itertools
import unittest

from cardlines.errors import Torn
from cardlines.figures import number_at, number_bytes, signed_at, signed_bytes

KNOWN = (
    (0, [0]), (1, [1]), (63, [63]),
    (64, [64, 1]), (65, [65, 1]), (127, [127, 1]), (128, [64, 2]), (4095, [127, 63]),
    (4096, [64, 64, 1]), (4097, [65, 64, 1]), (4160, [64, 65, 1]), (262143, [127, 127, 63]),
    (262144, [64, 64, 64, 1]), (1000000, [64, 73, 116, 3]), (16777215, [127, 127, 127, 63]),
)
SIGNED = (
    (0, [0]), (-1, [1]), (1, [2]), (-2, [3]), (31, [62]), (-32, [63]), (32, [64, 1]), (-33, [65, 1]),
    (2047, [126, 63]), (-2048, [127, 63]), (2048, [64, 64, 1]), (-2049, [65, 64, 1]),
    (131071, [126, 127, 63]), (-131072, [127, 127, 63]), (131072, [64, 64, 64, 1]), (-131073, [65, 64, 64, 1]),
    (1000000, [64, 82, 104, 7]), (-1000000, [127, 81, 104, 7]),
    (8388607, [126, 127, 127, 63]), (-8388608, [127, 127, 127, 63]),
)
TORN = (
    ([], 0), ([128], 0), ([200, 1], 0), ([255], 0),
    ([64], 1), ([127], 1), ([64, 64], 2), ([64, 127, 64], 3),
    ([64, 0], 1), ([65, 0], 1), ([127, 0, 5], 1), ([64, 64, 0], 2), ([65, 64, 0], 2), ([65, 65, 65, 0], 3),
    ([64, 128], 1), ([64, 255, 1], 1), ([64, 64, 128], 2), ([64, 65, 66, 200], 3),
    ([64, 64, 64, 64], 3), ([64, 64, 64, 64, 1], 3), ([127, 127, 127, 127], 3), ([64, 64, 64, 65, 200], 3),
)
AROUND = ([], [0], [64], [127], [128], [255], [64, 64, 64, 64], [0, 0, 0])


def told_by_the_document(codes, at):
    """The pair of [6], or the place of the torn byte: what is left of a number that may have four figures."""
    place = at
    while place < len(codes) and 64 <= codes[place] < 128 and place < at + 3:
        place += 1
    if place == len(codes) or codes[place] >= 64:
        return place
    if codes[place] == 0 and place > at:
        return place
    return (sum([(codes[k] & 63) << 6 * (k - at) for k in range(at, place + 1)]), place + 1)


class Written(unittest.TestCase):
    def test_number_bytes(self):
        for number, codes in KNOWN:
            self.assertEqual(number_bytes(number), codes)
            self.assertEqual(number_bytes(number=number), codes)

    def test_signed_bytes(self):
        for number, codes in SIGNED:
            self.assertEqual(signed_bytes(number), codes)
            self.assertEqual(signed_bytes(number=number), codes)

    def test_kinds_that_are_told(self):
        self.assertIs(type(number_bytes(64)), list)
        self.assertIs(type(signed_bytes(64)), list)
        self.assertIs(type(number_at((0,), 0)), tuple)
        self.assertIs(type(signed_at((0,), 0)), tuple)


class Read(unittest.TestCase):
    def test_from_any_place_whatever_stands_around(self):
        for ahead, behind in itertools.product(AROUND, AROUND):
            for number, codes in KNOWN:
                row = ahead + codes + behind
                self.assertEqual(number_at(row, len(ahead)), (number, len(ahead) + len(codes)))
            for number, codes in SIGNED:
                row = tuple(ahead + codes + behind)
                self.assertEqual(signed_at(at=len(ahead), codes=row), (number, len(ahead) + len(codes)))

    def test_torn(self):
        for ahead in AROUND:
            for codes, at in TORN:
                for reader in (number_at, signed_at):
                    for row in (ahead + codes, tuple(ahead + codes)):
                        with self.assertRaises(Torn) as caught:
                            reader(codes=row, at=len(ahead))
                        self.assertEqual(caught.exception.at, len(ahead) + at)

    def test_there_and_back(self):
        for number in (*range(9000), *range(260000, 264000), *range(9000, 16777216, 7919), *range(16776000, 16777216)):
            codes = number_bytes(number)
            self.assertEqual(number_at(codes, 0), (number, len(codes)))
        for number in (*range(-5000, 5000), *range(-8388608, 8388608, 7919)):
            codes = signed_bytes(number)
            self.assertEqual(signed_at(codes, 0), (number, len(codes)))

    def test_all_sorts_of_bytes(self):
        for many in range(6):
            for codes in itertools.product((0, 1, 63, 64, 65, 127, 128, 255), repeat=many):
                wanted = told_by_the_document(codes, 0)
                try:
                    told = number_at(codes, 0)
                except Torn as refused:
                    told = refused.at
                if told != wanted:
                    self.fail(f"{codes} told {told}, not {wanted}")


if __name__ == "__main__":
    unittest.main()
