"""The entrance: a list of calls on a new index, and what they answer."""

from stretchindex.arguments import argument_names, argument_refusal
from stretchindex.changes import change, is_change
from stretchindex.questions import question


def answers(calls):
    """Answer the calls, laid one behind another in a list of whole numbers."""
    entries = {}
    told_back = []
    place = 0
    while place < len(calls):
        call = calls[place]
        names = argument_names(call)
        behind = place + 1 + len(names)
        answer = answer_one(call, entries, dict(zip(names, calls[place + 1:behind])))
        told_back.append(len(answer))
        told_back.extend(answer)
        place = behind
    return told_back


def answer_one(call, entries, told):
    refusal = argument_refusal(told)
    if refusal < 0:
        return [refusal]
    if is_change(call):
        return change(call, entries, told)
    return question(call, entries, told)
