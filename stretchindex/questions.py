"""The calls that ask and change nothing.

Each takes the entries, a dict by number, and what it is told, a dict by the arguments' names.
"""

from stretchindex.entries import GREATEST_KEY, LEAST_KEY, end_from_told, entry_as_told
from stretchindex.refusals import NO_SUCH_ENTRY
from stretchindex.tree import Window, depths, search, tree_of


def get(entries, told):
    if told["id"] not in entries:
        return [NO_SUCH_ENTRY]
    return entry_as_told(entries[told["id"]])


def count(entries, told):
    return [len(entries)]


def stab(entries, told):
    window = Window(LEAST_KEY, GREATEST_KEY, told["v"], told["v"] + 1)
    result = search(whole_tree(entries), window)
    return counted(result[0], result[1])


def find(entries, told):
    result = search(whole_tree(entries), window_told(told))
    return counted(result[0], result[1])


def inside(entries, told):
    window = window_told(told)
    result = search(whole_tree(entries), window)
    within = [entry for entry in result[0] if window.first <= entry.first and entry.end <= window.end]
    return counted(within, result[1])


def around(entries, told):
    window = window_told(told)
    result = search(whole_tree(entries), window)
    beyond = [entry for entry in result[0] if entry.first <= window.first and window.end <= entry.end]
    return counted(beyond, result[1])


def shape(entries, told):
    answer = [len(entries)]
    for pair in depths(whole_tree(entries)):
        answer.extend(pair)
    return answer


def whole_tree(entries):
    # Built anew for each question: its form hangs on the entries alone, so nothing is to be kept up to date.
    return tree_of(list(entries.values()))


def window_told(told):
    return Window(told["j"], told["k"], told["a"], end_from_told(told["b"]))


def counted(entries, looked_at):
    answer = [len(entries), looked_at]
    answer.extend([entry.number for entry in entries])
    return answer


QUESTIONS = {7: get, 8: count, 9: stab, 10: find, 11: inside, 12: around, 23: shape}


def question(call, entries, told):
    return QUESTIONS[call](entries, told)
