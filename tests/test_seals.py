import itertools
import random
import unittest

from cardlines.errors import Broken
from cardlines.seals import bent_in, mended, sealed, unsealed

SIZES = (0, 1, 2, 5, 99, 100, 101, 200, 201, 2000)


def seal_by_the_document(block):
    total = 0
    turned = 0
    for place, code in enumerate(block, start=1):
        total += code
        for often in range(place):
            turned += code
    return [total % 257 // 16, total % 257 % 16, turned % 257 // 16, turned % 257 % 16]


def is_so(block):
    return len(block) >= 5 and list(block[-4:]) == seal_by_the_document(block[:-4])


def mends_by_the_document(block):
    """All (place, byte) that, put so, make a block right: each byte of it put to each."""
    return [(place, byte) for place in range(len(block)) for byte in range(256)
            if is_so([*block[:place], byte, *block[place + 1:]])]


def some_bytes(chance, many):
    return [chance.choice((0, 255, chance.randrange(256))) for at in range(many)]


class Sealed(unittest.TestCase):
    def test_known(self):
        self.assertEqual(sealed([]), [])
        self.assertEqual(sealed([0]), [0, 0, 0, 0, 0])
        self.assertEqual(sealed([1]), [1, 0, 1, 0, 1])
        self.assertEqual(sealed([1, 2, 3]), [1, 2, 3, 0, 6, 0, 14])
        self.assertEqual(sealed([255]), [255, 15, 15, 15, 15])
        # Both sums are 256 by 257, whose sixteenths are no single figure of sixteen.
        self.assertEqual(sealed([255, 1])[2:], [16, 0, 0, 0])
        self.assertEqual(sealed([254, 1])[2:], [15, 15, 16, 0])
        self.assertEqual(sealed([255, 2])[2:], [0, 0, 0, 2])

    def test_by_the_document(self):
        chance = random.Random(12)
        for many in (*SIZES, *range(95, 106), *range(198, 204)):
            codes = some_bytes(chance, many)
            wanted = []
            for at in range(0, many, 100):
                wanted += codes[at:at + 100] + seal_by_the_document(codes[at:at + 100])
            for row in (codes, tuple(codes)):
                told = sealed(row)
                self.assertIs(type(told), list)
                self.assertEqual(told, wanted)
                self.assertEqual(sealed(codes=row), wanted)

    def test_back(self):
        chance = random.Random(13)
        for many in SIZES:
            codes = some_bytes(chance, many)
            row = sealed(codes)
            for given in (row, tuple(row)):
                self.assertIs(type(unsealed(given)), list)
                self.assertEqual(unsealed(given), codes)
                self.assertEqual(unsealed(codes=given), codes)
                self.assertEqual(bent_in(given), [])
                self.assertIs(type(mended(given)), list)
                self.assertEqual(mended(codes=given), row)


class Bent(unittest.TestCase):
    def broken(self, ask, codes, at):
        with self.assertRaises(Broken) as caught:
            ask(codes)
        self.assertEqual(caught.exception.at, at)

    def is_told(self, row, at, code):
        """A sealed row with one byte bent."""
        bent = row[:at] + [code] + row[at + 1:]
        self.broken(unsealed, bent, at - at % 104)
        self.assertEqual(bent_in(bent), [(at, row[at])])
        self.assertEqual(mended(bent), row)

    def test_each_byte_of_short_blocks_to_each_other(self):
        for codes in ([0], [255], [1], [128, 7], [255, 255, 255]):
            row = sealed(codes)
            for at in range(len(row)):
                for code in range(256):
                    if code != row[at]:
                        self.is_told(row, at, code)

    def test_each_byte_of_a_long_block(self):
        chance = random.Random(14)
        for codes in (some_bytes(chance, 100), some_bytes(chance, 99), [255] * 100, [0] * 100):
            row = sealed(codes)
            for at in range(len(row)):
                for code in {0, 255, (row[at] + 1) % 256, (row[at] - 1) % 256, chance.randrange(256)} - {row[at]}:
                    self.is_told(row, at, code)

    def test_in_each_block(self):
        chance = random.Random(15)
        row = sealed(some_bytes(chance, 250))
        for at in range(0, len(row), 3):
            self.is_told(row, at, (row[at] + chance.randrange(1, 256)) % 256)

    def test_kinds_that_are_told(self):
        told = bent_in([1, 0, 1, 0, 2])
        self.assertEqual(told, [(4, 1)])
        self.assertEqual([type(told), type(told[0])], [list, tuple])
        self.assertEqual(bent_in(codes=(1, 0, 1, 0, 2)), [(4, 1)])
        self.assertEqual(mended((1, 0, 1, 0, 2)), [1, 0, 1, 0, 1])

    def test_several_blocks_bent(self):
        chance = random.Random(16)
        row = sealed(some_bytes(chance, 450))
        for round_ in range(60):
            bent = list(row)
            wanted = []
            for block in sorted(chance.sample(range(5), chance.randrange(1, 6))):
                at = chance.randrange(104 * block, min(104 * block + 104, len(row)))
                bent[at] = (bent[at] + chance.randrange(1, 256)) % 256
                wanted.append((at, row[at]))
            self.assertEqual(bent_in(bent), wanted)
            self.assertEqual(mended(bent), row)
            self.broken(unsealed, bent, wanted[0][0] // 104 * 104)

    def test_several_blocks_bent_one_of_them_twice(self):
        row = sealed([7] * 300)
        bent = list(row)
        bent[5] = 9
        bent[150] += 1
        bent[160] += 3
        bent[311] = 200
        self.assertEqual(bent_in(bent), [(5, 7), (104, None), (311, row[311])])
        self.broken(mended, bent, 104)
        self.broken(unsealed, bent, 0)

    def test_two_bytes_bent_are_never_taken_for_none(self):
        chance = random.Random(17)
        for codes in ([0], [200, 3], some_bytes(chance, 100), some_bytes(chance, 60)):
            row = sealed(codes)
            pairs = list(itertools.combinations(range(len(row)), 2))
            for one, other in chance.sample(pairs, min(len(pairs), 300)):
                by = chance.randrange(1, 256)
                for first, second in ((by, -by), (by, by), (by, chance.randrange(1, 256))):
                    bent = list(row)
                    bent[one] = (bent[one] + first) % 256
                    bent[other] = (bent[other] + second) % 256
                    self.broken(unsealed, bent, 0)
                    told = bent_in(bent)
                    self.assertEqual(len(told), 1)
                    if told == [(0, None)]:
                        self.broken(mended, bent, 0)
                    else:
                        at, byte = told[0]
                        put = bent[:at] + [byte] + bent[at + 1:]
                        self.assertTrue(is_so(put))
                        self.assertEqual(mended(bent), put)

    def test_all_twice_bent_short_blocks(self):
        row = sealed([9, 250])
        for one, other in itertools.combinations(range(6), 2):
            for first, second in itertools.product((1, 2, 15, 16, 240, 255), repeat=2):
                bent = list(row)
                bent[one] = (bent[one] + first) % 256
                bent[other] = (bent[other] + second) % 256
                self.broken(unsealed, bent, 0)
                self.assertEqual(len(bent_in(bent)), 1)


class TooShort(unittest.TestCase):
    def test_last_block(self):
        for ahead in ([], sealed([5] * 100), sealed([5] * 200)):
            for rest in ([0], [0, 0], [0, 0, 0], [0, 0, 0, 0], [7, 200, 255, 3]):
                codes = ahead + rest
                for ask in (unsealed, mended):
                    with self.assertRaises(Broken) as caught:
                        ask(codes)
                    self.assertEqual(caught.exception.at, len(ahead))
                self.assertEqual(bent_in(codes), [(len(ahead), None)])
            self.assertEqual(unsealed(ahead + [0] * 5), unsealed(ahead) + [0])

    def test_cut_off(self):
        row = sealed(list(range(1, 150)))
        for many in range(len(row)):
            cut = row[:many]
            blocks = [(at, cut[at:at + 104]) for at in range(0, many, 104)]
            wrong = [at for at, block in blocks if not is_so(block)]
            if not wrong:
                self.assertEqual(unsealed(cut), list(range(1, 101))[:many])
                continue
            with self.assertRaises(Broken) as caught:
                unsealed(cut)
            self.assertEqual(caught.exception.at, wrong[0])


class AnyBytes(unittest.TestCase):
    def asked(self, codes):
        wanted = []
        put = list(codes)
        for at in range(0, len(codes), 104):
            block = codes[at:at + 104]
            if is_so(block):
                continue
            mends = mends_by_the_document(block) if len(block) >= 5 else []
            self.assertLessEqual(len(mends), 1)
            if mends:
                put[at + mends[0][0]] = mends[0][1]
            wanted.append((at + mends[0][0], mends[0][1]) if mends else (at, None))
        self.assertEqual(bent_in(codes), wanted, f"{codes}")
        lost = [at for at, byte in wanted if byte is None]
        if lost:
            with self.assertRaises(Broken) as caught:
                mended(codes)
            self.assertEqual(caught.exception.at, lost[0])
        else:
            self.assertEqual(mended(codes), put)

    def test_short_ones_beside_all_single_bytes(self):
        chance = random.Random(18)
        for round_ in range(150):
            self.asked([chance.randrange(256) for at in range(chance.randrange(1, 12))])
        # Seals of no sum, and near ones: sixteenths above sixteen, rests above fifteen.
        for seal in itertools.product((0, 1, 15, 16, 17, 255), repeat=4):
            if chance.randrange(8) == 0:
                self.asked([chance.choice((0, 1, 200, 255)), *seal])

    def test_seals_that_no_sum_has(self):
        # The sum by 257 would be as told, but it is never written so.
        self.assertEqual(bent_in([0, 16, 1, 0, 0]), [(0, None)])
        self.assertEqual(bent_in([5, 16, 6, 0, 5]), [(0, None)])
        self.assertEqual(bent_in([17, 0, 17, 1, 1]), [(0, None)])
        # The byte that the sums ask for would be 256.
        self.assertEqual(bent_in([5, 16, 0, 16, 0]), [(0, None)])
        self.assertEqual(bent_in([255, 16, 0, 16, 0]), [(0, None)])

    def test_bytes_at_places_beyond_the_block(self):
        # By the sums the bent byte would be the third of two, the hundred and first of a hundred.
        for many, place in ((2, 3), (100, 101), (100, 256)):
            row = [0] * many + seal_by_the_document([0] * (place - 1) + [1])
            self.assertEqual(bent_in(row), [(0, None)])

    def test_long_ones(self):
        chance = random.Random(19)
        for many in (104, 105, 2000):
            codes = [chance.randrange(256) for at in range(many)]
            for at, byte in bent_in(codes):
                block = codes[at // 104 * 104:at // 104 * 104 + 104]
                if byte is not None:
                    self.assertTrue(is_so(block[:at % 104] + [byte] + block[at % 104 + 1:]))
            self.assertEqual(len(bent_in(codes)), len(range(0, many, 104)))

    def test_no_bytes(self):
        self.assertEqual([unsealed([]), bent_in([]), mended([])], [[], [], []])


if __name__ == "__main__":
    unittest.main()
