"""What the calls are told: the names of their arguments, and the refusals that need nothing else."""

from stretchindex.entries import GREATEST_KEY, GREATEST_NUMBER, LAST_MOMENT, LEAST_KEY, NEVER_AS_TOLD, end_from_told
from stretchindex.refusals import EMPTY_STRETCH, OUT_OF_RANGE

# The n of free is called length here, as unlike the n of shift it may not be 0.
ARGUMENT_NAMES = {
    0: ("id", "key", "a", "b"),
    1: ("id",),
    2: ("id", "a", "b"),
    3: ("id", "key"),
    4: ("j", "k", "v"),
    5: ("v",),
    6: ("j", "k", "n"),
    7: ("id",),
    8: (),
    9: ("v",),
    10: ("j", "k", "a", "b"),
    11: ("j", "k", "a", "b"),
    12: ("j", "k", "a", "b"),
    13: ("id",),
    14: ("i",),
    15: ("key",),
    16: ("key",),
    17: ("key", "a", "b"),
    18: ("key", "a", "length"),
    19: ("key", "v"),
    20: ("key", "v"),
    21: ("a", "b"),
    22: ("id",),
    23: (),
}


def argument_names(call):
    return ARGUMENT_NAMES[call]


def in_range(name, number):
    if name == "id":
        return 0 <= number <= GREATEST_NUMBER
    if name in ("key", "j", "k"):
        return LEAST_KEY <= number <= GREATEST_KEY
    if name == "b" and number == NEVER_AS_TOLD:
        return True
    if name == "length":
        return 1 <= number <= LAST_MOMENT
    return 0 <= number <= LAST_MOMENT


def argument_refusal(told):
    """The refusal that the arguments call for by themselves, or 0."""
    for name in told:
        if not in_range(name, told[name]):
            return OUT_OF_RANGE
    if "a" in told and "b" in told and told["a"] >= end_from_told(told["b"]):
        return EMPTY_STRETCH
    return 0
