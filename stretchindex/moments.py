"""How many of some entries hold, over all moments: where they begin, end and meet."""

from stretchindex.entries import NEVER


def levels(entries):
    """Pairs in order: a moment at which one begins or ends, and how many hold from it on until the next."""
    differences = {}
    for entry in entries:
        differences[entry.first] = differences.get(entry.first, 0) + 1
        if entry.end != NEVER:
            differences[entry.end] = differences.get(entry.end, 0) - 1
    pairs = []
    level = 0
    for moment in sorted(differences):
        level += differences[moment]
        pairs.append((moment, level))
    return pairs


def stretches_held(entries):
    """The stretches at whose moments at least one holds: pairs of a first moment and an end, none touching another."""
    stretches = []
    begun = None
    for pair in levels(entries):
        if begun is None:
            begun = pair[0]
        elif pair[1] == 0:
            stretches.append((begun, pair[0]))
            begun = None
    if begun is not None:
        stretches.append((begun, NEVER))
    return stretches


def first_meeting(entries):
    """The first moment at which two or more hold, or None."""
    for pair in levels(entries):
        if pair[1] >= 2:
            return pair[0]
    return None


def greatest_level(entries, first, end):
    """The most that hold at one moment from first on and before end, and the first such moment."""
    most = 0
    reached = first
    for pair in levels(entries):
        if pair[0] <= first:
            # Each replaces the one before it: the last of these levels is the one that lasts until first.
            most = pair[1]
        elif pair[0] < end and pair[1] > most:
            most = pair[1]
            reached = pair[0]
    return (most, reached)
