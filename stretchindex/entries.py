"""Entries: what one consists of, how they are in order, and how they are told."""

GREATEST_NUMBER = 999999
LEAST_KEY = -999999999999
GREATEST_KEY = 999999999999
LAST_MOMENT = 1000000000
MOST_ENTRIES = 200

# Greater than every moment that a call can name, so that ends are compared as plain numbers.
NEVER = 1000000000000000000
NEVER_AS_TOLD = -1


class Entry:
    def __init__(self, number, key, first, end):
        self.number = number
        self.key = key
        self.first = first
        self.end = end


def end_from_told(told):
    return NEVER if told == NEVER_AS_TOLD else told


def end_as_told(end):
    return NEVER_AS_TOLD if end == NEVER else end


def entry_as_told(entry):
    return [entry.number, entry.key, entry.first, end_as_told(entry.end)]


def rank(entry):
    return (entry.key, entry.first, entry.number)


def in_order(entries):
    return sorted(entries, key=rank)


def with_keys(entries, low, high):
    """The entries, out of a dict of them by number, with keys from low to high."""
    return [entry for entry in entries.values() if low <= entry.key <= high]
