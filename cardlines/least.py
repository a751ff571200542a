"""The least rows of entries that lead to given places, and what they cost."""

from cardlines.entries import entry_bytes
from cardlines.leading import COPIES
from cardlines.ways import ways_of


def rise(way):
    """By what ways, each of bytes and entries, rise: how many bytes there are, then the bytes as lists rise."""
    codes, entries = way
    return (len(codes), codes)


def least_entries(places, *, line=0, make=COPIES):
    """Of all rows of entries that lead to these places the one of the fewest, and of those the first, bytes."""
    ways = ways_of(places, line, make)
    # What leads to the cards ahead changes nothing behind them, so the least rest goes behind each first entry.
    rests = {len(places): ([], [])}
    for card in reversed(range(len(places))):
        whole = []
        for entry in ways[card]:
            codes, entries = rests[card + entry[1]]
            whole.append((entry_bytes(entry) + codes, [entry] + entries))
        rests[card] = min(whole, key=rise)
    return rests[0][1]


def prices(places, *, line=0, make=COPIES):
    """For each number of first cards, from 0 on, the fewest bytes of rows of entries that lead to them."""
    fewest = {0: 0}
    for card, ways in enumerate(ways_of(places, line, make)):
        for entry in ways:
            behind = card + entry[1]
            price = fewest[card] + len(entry_bytes(entry))
            fewest[behind] = min(price, fewest.get(behind, price))
    return [fewest[many] for many in range(len(places) + 1)]
