"""The numbers that refuse a call, in the order in which they are looked at."""

OUT_OF_RANGE = -1
EMPTY_STRETCH = -2
NO_SUCH_ENTRY = -3
NUMBER_TAKEN = -4
BEYOND_LAST_MOMENT = -5
FULL = -6
