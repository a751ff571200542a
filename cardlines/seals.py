"""Seals: blocks of bytes with four more that tell of one bent byte what it was."""

from cardlines.errors import Broken

BLOCK = 100
SEAL = 4
BASE = 16
# A prime above all bytes and places: so one bent byte bends both sums, and two never leave both as they were.
BY = 257


def seal_of(codes):
    """The four bytes that seal these."""
    total = sum(codes) % BY
    turned = sum([place * code for place, code in enumerate(codes, start=1)]) % BY
    return [total // BASE, total % BASE, turned // BASE, turned % BASE]


def sealed(codes):
    """The bytes in sealed blocks of 100 each, but the last."""
    row = []
    for at in range(0, len(codes), BLOCK):
        block = list(codes[at:at + BLOCK])
        row.extend(block + seal_of(block))
    return row


def blocks_of(codes):
    """The list of pairs (at, block) of sealed bytes, each block with its seal."""
    return [(at, list(codes[at:at + BLOCK + SEAL])) for at in range(0, len(codes), BLOCK + SEAL)]


def is_right(block):
    """Whether a block has a byte at least, and fits its seal."""
    return len(block) > SEAL and block[-SEAL:] == seal_of(block[:-SEAL])


def unsealed(codes):
    """The bytes that are sealed so."""
    row = []
    for at, block in blocks_of(codes):
        if not is_right(block):
            raise Broken(at)
        row.extend(block[:-SEAL])
    return row


def mend_of(block):
    """The pair (place, byte) of the one byte that makes a block right, None where there's no such one."""
    if len(block) <= SEAL:
        return None
    codes = block[:-SEAL]
    more = block[-SEAL] * BASE + block[-SEAL + 1] - sum(codes)
    # At each place just one byte can make the block right: the one by which the sum, or the seal, is as told.
    asked = [(code + more) % BY for code in codes] + seal_of(codes)
    for place, byte in enumerate(asked):
        if byte <= 255 and is_right(block[:place] + [byte] + block[place + 1:]):
            return (place, byte)
    return None


def mends_of(codes):
    """The list of pairs (at, mend) of all blocks that aren't right, rising."""
    return [(at, mend_of(block)) for at, block in blocks_of(codes) if not is_right(block)]


def bent_in(codes):
    """A pair for each block that isn't right: the place of the bent byte and what it was, or the block's and None."""
    return [(at, None) if mend is None else (at + mend[0], mend[1]) for at, mend in mends_of(codes)]


def mended(codes):
    """The same blocks with each bent byte put right."""
    row = list(codes)
    for at, mend in mends_of(codes):
        if mend is None:
            raise Broken(at)
        row[at + mend[0]] = mend[1]
    return row
