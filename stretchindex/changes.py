"""The calls that change the entries.

Each takes the entries, a dict by number, and what it is told, a dict by the arguments' names.
"""

from stretchindex.entries import (
    LAST_MOMENT, MOST_ENTRIES, NEVER, Entry, end_as_told, end_from_told, with_keys,
)
from stretchindex.refusals import BEYOND_LAST_MOMENT, FULL, NO_SUCH_ENTRY, NUMBER_TAKEN


def add(entries, told):
    number = told["id"]
    if number in entries:
        return [NUMBER_TAKEN]
    if len(entries) >= MOST_ENTRIES:
        return [FULL]
    entries[number] = Entry(number, told["key"], told["a"], end_from_told(told["b"]))
    return [len(entries)]


def drop(entries, told):
    if told["id"] not in entries:
        return [NO_SUCH_ENTRY]
    entries.pop(told["id"])
    return [len(entries)]


def move(entries, told):
    if told["id"] not in entries:
        return [NO_SUCH_ENTRY]
    entry = entries[told["id"]]
    before = [entry.first, end_as_told(entry.end)]
    entry.first = told["a"]
    entry.end = end_from_told(told["b"])
    return before


def rekey(entries, told):
    if told["id"] not in entries:
        return [NO_SUCH_ENTRY]
    entry = entries[told["id"]]
    before = entry.key
    entry.key = told["key"]
    return [0, before]


def close(entries, told):
    moment = told["v"]
    meant = with_keys(entries, told["j"], told["k"])
    gone = [entry for entry in meant if entry.first >= moment]
    cut = [entry for entry in meant if entry.first < moment and entry.end > moment]
    remove_all(entries, gone)
    for entry in cut:
        entry.end = moment
    return [len(cut), len(gone)]


def purge(entries, told):
    gone = [entry for entry in entries.values() if entry.end <= told["v"]]
    remove_all(entries, gone)
    return [len(gone)]


def remove_all(entries, gone):
    for entry in gone:
        entries.pop(entry.number)


def shift(entries, told):
    meant = with_keys(entries, told["j"], told["k"])
    # All are looked at before one is changed: what is refused changes nothing.
    for entry in meant:
        if last_bound(entry) + told["n"] > LAST_MOMENT:
            return [BEYOND_LAST_MOMENT]
    for entry in meant:
        entry.first += told["n"]
        if entry.end != NEVER:
            entry.end += told["n"]
    return [len(meant)]


def last_bound(entry):
    return entry.first if entry.end == NEVER else entry.end


CHANGES = {0: add, 1: drop, 2: move, 3: rekey, 4: close, 5: purge, 6: shift}


def is_change(call):
    return call in CHANGES


def change(call, entries, told):
    return CHANGES[call](entries, told)
