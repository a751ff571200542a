"""A small checker: whether prices show that a row of entries is least."""

from cardlines.entries import entry_bytes, is_entry
from cardlines.errors import BadEntry
from cardlines.leading import COPIES, led
from cardlines.plain import is_whole
from cardlines.ways import ways_of


def is_row(thing, make):
    """Whether a thing is a list of entries of a make."""
    if not isinstance(thing, list):
        return False
    return all([is_entry(entry) and (make == COPIES or entry[0] != "copy") for entry in thing])


def leads_to(entries, places, line):
    """Whether entries lead to just these places."""
    try:
        return led(entries, line=line) == list(places)
    except BadEntry:
        return False


def are_prices(thing, many, total):
    """Whether a thing is a list of so many numbers and one more, the first 0, the last this total."""
    if not isinstance(thing, list) or len(thing) != many + 1:
        return False
    return all([is_whole(price) for price in thing]) and thing[0] == 0 and thing[-1] == total


def none_undercuts(ways, prices):
    """Whether no entry has fewer bytes than the price behind it less that ahead of it."""
    for card, entries in enumerate(ways):
        for entry in entries:
            if len(entry_bytes(entry)) < prices[card + entry[1]] - prices[card]:
                return False
    return True


def shows_least(places, entries, prices, *, line=0, make=COPIES):
    """Whether entries lead to these places, and prices show that no row of entries of that make has fewer bytes."""
    if not is_row(entries, make) or not leads_to(entries, places, line):
        return False
    total = sum([len(entry_bytes(entry)) for entry in entries])
    if not are_prices(prices, len(places), total):
        return False
    return none_undercuts(ways_of(places, line, make), prices)
