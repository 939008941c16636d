"""The calls that ask and change nothing.

Each takes the entries, a dict by number, and what it is told, a dict by the arguments' names.
"""

from stretchindex.entries import (
    GREATEST_KEY, LEAST_KEY, NEVER, end_from_told, entry_as_told, in_order, rank, with_keys,
)
from stretchindex.moments import first_meeting, greatest_level, stretches_held
from stretchindex.refusals import NO_SUCH_ENTRY
from stretchindex.tree import Window, depths, search, tree_of, way_down


def get(entries, told):
    if told["id"] not in entries:
        return [NO_SUCH_ENTRY]
    return entry_as_told(entries[told["id"]])


def count(entries, told):
    return [len(entries)]


def stab(entries, told):
    window = Window(LEAST_KEY, GREATEST_KEY, told["v"], told["v"] + 1)
    result = search(whole_tree(entries), window)
    return counted(result[0], result[1])


def find(entries, told):
    result = search(whole_tree(entries), window_told(told))
    return counted(result[0], result[1])


def inside(entries, told):
    window = window_told(told)
    result = search(whole_tree(entries), window)
    within = [entry for entry in result[0] if window.first <= entry.first and entry.end <= window.end]
    return counted(within, result[1])


def around(entries, told):
    window = window_told(told)
    result = search(whole_tree(entries), window)
    beyond = [entry for entry in result[0] if entry.first <= window.first and window.end <= entry.end]
    return counted(beyond, result[1])


def place(entries, told):
    if told["id"] not in entries:
        return [NO_SUCH_ENTRY]
    own = rank(entries[told["id"]])
    return [len([entry for entry in entries.values() if rank(entry) < own])]


def nth(entries, told):
    if told["i"] >= len(entries):
        return [NO_SUCH_ENTRY]
    ordered = in_order(list(entries.values()))
    return entry_as_told(ordered[told["i"]])


def held(entries, told):
    bounds = []
    for stretch in stretches_held(with_key(entries, told)):
        bounds.extend([bound for bound in stretch if bound != NEVER])
    return with_count(bounds)


def clash(entries, told):
    moment = first_meeting(with_key(entries, told))
    return [0] if moment is None else [1, moment]


def covered(entries, told):
    first = told["a"]
    for stretch in stretches_held(with_key(entries, told)):
        if stretch[0] <= first < stretch[1]:
            return [1] if end_from_told(told["b"]) <= stretch[1] else [0, stretch[1]]
    return [0, first]


def free(entries, told):
    moment = told["a"]
    for stretch in stretches_held(with_key(entries, told)):
        if stretch[0] - moment >= told["length"]:
            return [1, moment]
        moment = max(moment, stretch[1])
    return [0] if moment == NEVER else [1, moment]


def prior(entries, told):
    best = None
    for entry in in_order(with_key(entries, told)):
        # An equal end replaces the one before it: of several the last in order is told.
        if entry.end <= told["v"] and (best is None or entry.end >= best.end):
            best = entry
    return entry_or_none(best)


def following(entries, told):
    for entry in in_order(with_key(entries, told)):
        if entry.first >= told["v"]:
            return entry_or_none(entry)
    return entry_or_none(None)


def busiest(entries, told):
    result = greatest_level(list(entries.values()), told["a"], end_from_told(told["b"]))
    return [result[0], result[1]]


def path(entries, told):
    if told["id"] not in entries:
        return [NO_SUCH_ENTRY]
    way = way_down(whole_tree(entries), entries[told["id"]])
    return with_count([entry.number for entry in way])


def shape(entries, told):
    answer = [len(entries)]
    for pair in depths(whole_tree(entries)):
        answer.extend(pair)
    return answer


def whole_tree(entries):
    # Built anew for each question: its form hangs on the entries alone, so nothing is to be kept up to date.
    return tree_of(list(entries.values()))


def with_key(entries, told):
    return with_keys(entries, told["key"], told["key"])


def window_told(told):
    return Window(told["j"], told["k"], told["a"], end_from_told(told["b"]))


def counted(entries, looked_at):
    answer = [len(entries), looked_at]
    answer.extend([entry.number for entry in entries])
    return answer


def with_count(numbers):
    return [len(numbers)] + numbers


def entry_or_none(entry):
    return [0] if entry is None else [1] + entry_as_told(entry)


QUESTIONS = {
    7: get,
    8: count,
    9: stab,
    10: find,
    11: inside,
    12: around,
    13: place,
    14: nth,
    15: held,
    16: clash,
    17: covered,
    18: free,
    19: prior,
    20: following,
    21: busiest,
    22: path,
    23: shape,
}


def question(call, entries, told):
    return QUESTIONS[call](entries, told)
