"""What the tests share: asking the program by the calls' names, and a slow model of the document.

The model follows the document's sentences word by word, by recursion and without any
shortcut, so that it has little in common with the program.
"""

from stretchindex.index import answers

NUMBERS = {
    "add": 0, "drop": 1, "move": 2, "rekey": 3, "close": 4, "purge": 5, "shift": 6, "get": 7,
    "count": 8, "stab": 9, "find": 10, "inside": 11, "around": 12, "place": 13, "nth": 14, "held": 15, "clash": 16,
    "covered": 17, "free": 18, "prior": 19, "following": 20, "busiest": 21, "path": 22, "shape": 23,
}
ARGUMENTS = {
    "add": ["id", "key", "a", "b"], "drop": ["id"], "move": ["id", "a", "b"], "rekey": ["id", "key"],
    "close": ["j", "k", "v"], "purge": ["v"], "shift": ["j", "k", "n"], "get": ["id"], "count": [],
    "stab": ["v"], "find": ["j", "k", "a", "b"], "inside": ["j", "k", "a", "b"],
    "around": ["j", "k", "a", "b"], "place": ["id"], "nth": ["i"], "held": ["key"], "clash": ["key"],
    "covered": ["key", "a", "b"], "free": ["key", "a", "n"], "prior": ["key", "v"], "following": ["key", "v"],
    "busiest": ["a", "b"], "path": ["id"], "shape": [],
}
LOW_KEY = -999999999999
HIGH_KEY = 999999999999
LAST = 1000000000
HUGE = 10 ** 18
ALL = (LOW_KEY, HIGH_KEY)


def laid_out(calls):
    """One list of numbers from calls like ("add", 1, 5, 3, 9)."""
    numbers = []
    for call in calls:
        assert len(call) == 1 + len(ARGUMENTS[call[0]]), call
        numbers.append(NUMBERS[call[0]])
        numbers.extend(call[1:])
    return numbers


def split(numbers):
    parts = []
    place = 0
    while place < len(numbers):
        behind = place + 1 + numbers[place]
        assert behind <= len(numbers), numbers
        parts.append(numbers[place + 1:behind])
        place = behind
    return parts


def ask(*calls):
    """The answers, a list for each call."""
    parts = split(answers(laid_out(calls)))
    assert len(parts) == len(calls), parts
    return parts


def last(*calls):
    return ask(*calls)[-1]


def questions_on(numbers):
    """Calls whose answers tell all of the state, for entries with these numbers."""
    return [("count",), ("shape",), ("find", *ALL, 0, -1)] + [("get", number) for number in numbers]


def state_after(calls, numbers):
    asked = questions_on(numbers)
    return ask(*calls, *asked)[-len(asked):]


def expected(calls):
    """What the model answers, a list for each call."""
    model = Model()
    return [model.answer(call) for call in calls]


def weight(number):
    return (number * 48271 + 11) % (2 ** 31 - 1)


class Model:
    def __init__(self):
        self.entries = {}

    def answer(self, call):
        name = call[0]
        told = dict(zip(ARGUMENTS[name], call[1:]))
        refusal = self.refusal(name, told)
        if refusal is not None:
            return [refusal]
        if told.get("b") == -1:
            told["b"] = float("inf")
        return [-1 if number == float("inf") else number for number in getattr(self, name)(**rename(told))]

    def refusal(self, name, told):
        if any(not is_in_range(argument, number) for argument, number in told.items()):
            return -1
        if name == "free" and told["n"] == 0:
            return -1
        if "a" in told and "b" in told and told["b"] != -1 and not told["a"] < told["b"]:
            return -2
        if name in ("drop", "move", "rekey", "get", "place", "path") and told["id"] not in self.entries:
            return -3
        if name == "nth" and all(self.place(number) != [told["i"]] for number in self.entries):
            return -3
        if name == "add" and told["id"] in self.entries:
            return -4
        if name == "shift":
            for number in self.keyed(told["j"], told["k"]):
                if any(x != float("inf") and x + told["n"] > LAST for x in self.entries[number][1:]):
                    return -5
        if name == "add" and len(self.entries) == 200:
            return -6
        return None

    def keyed(self, j, k):
        return [number for number, entry in self.entries.items() if j <= entry[0] <= k]

    def add(self, number, key, a, b):
        self.entries[number] = (key, a, b)
        return [len(self.entries)]

    def drop(self, number):
        del self.entries[number]
        return [len(self.entries)]

    def move(self, number, a, b):
        key, old_a, old_b = self.entries[number]
        self.entries[number] = (key, a, b)
        return [old_a, old_b]

    def rekey(self, number, key):
        old, a, b = self.entries[number]
        self.entries[number] = (key, a, b)
        return [0, old]

    def close(self, j, k, v):
        ended = gone = 0
        for number in self.keyed(j, k):
            key, a, b = self.entries[number]
            if a >= v:
                del self.entries[number]
                gone += 1
            elif b > v:
                self.entries[number] = (key, a, v)
                ended += 1
        return [ended, gone]

    def purge(self, v):
        gone = [number for number, entry in self.entries.items() if entry[2] <= v]
        for number in gone:
            del self.entries[number]
        return [len(gone)]

    def shift(self, j, k, n):
        meant = self.keyed(j, k)
        for number in meant:
            key, a, b = self.entries[number]
            self.entries[number] = (key, a + n, b + n)
        return [len(meant)]

    def get(self, number):
        return [number, *self.entries[number]]

    def count(self):
        return [len(self.entries)]

    def in_order(self, numbers):
        return sorted(numbers, key=lambda number: (self.entries[number][0], self.entries[number][1], number))

    def search(self, ordered, j, k, a, b):
        """Numbers found and how many were looked at, in the tree of these numbers, which are in order."""
        if not ordered:
            return [], 0
        ends = [self.entries[number][2] for number in ordered]
        firsts = [self.entries[number][1] for number in ordered]
        if max(ends) <= a or min(firsts) >= b:
            return [], 0
        top = max(ordered, key=weight)
        at = ordered.index(top)
        key, first, end = self.entries[top]
        found, looked = self.search(ordered[:at], j, k, a, b) if j <= key else ([], 0)
        hit = j <= key <= k and max(a, first) < min(b, end)
        behind, more = self.search(ordered[at + 1:], j, k, a, b) if key <= k else ([], 0)
        return found + [top] * hit + behind, looked + 1 + more

    def counted(self, j, k, a, b, wanted):
        found, looked = self.search(self.in_order(self.entries), j, k, a, b)
        told = [number for number in found if wanted(*self.entries[number][1:])]
        return [len(told), looked, *told]

    def stab(self, v):
        return self.counted(*ALL, v, v + 1, lambda first, end: True)

    def find(self, j, k, a, b):
        return self.counted(j, k, a, b, lambda first, end: True)

    def inside(self, j, k, a, b):
        return self.counted(j, k, a, b, lambda first, end: first >= a and end <= b)

    def around(self, j, k, a, b):
        return self.counted(j, k, a, b, lambda first, end: first <= a and end >= b)

    def place(self, number):
        return [self.in_order(self.entries).index(number)]

    def nth(self, i):
        return self.get(self.in_order(self.entries)[i])

    def of_key(self, key):
        return self.in_order(self.keyed(key, key))

    def holding(self, numbers, moment):
        return sum(self.entries[number][1] <= moment < self.entries[number][2] for number in numbers)

    def turns(self, numbers):
        """The moments at which one of them begins or ends, in order."""
        bounds = {bound for number in numbers for bound in self.entries[number][1:]}
        return sorted(bounds - {float("inf")})

    def held(self, key):
        numbers = self.of_key(key)
        bounds = [moment for moment in self.turns(numbers)
                  if (self.holding(numbers, moment) > 0) != (self.holding(numbers, moment - 1) > 0)]
        return [len(bounds), *bounds]

    def clash(self, key):
        numbers = self.of_key(key)
        double = [moment for moment in self.turns(numbers) if self.holding(numbers, moment) > 1]
        return [1, double[0]] if double else [0]

    def covered(self, key, a, b):
        numbers = self.of_key(key)
        moments = [a] + [moment for moment in self.turns(numbers) if a < moment < b]
        bare = [moment for moment in moments if self.holding(numbers, moment) == 0]
        return [0, bare[0]] if bare else [1]

    def free(self, key, a, n):
        stretches = [self.entries[number][1:] for number in self.of_key(key)]
        for moment in sorted([a] + [end for first, end in stretches if a < end < float("inf")]):
            if all(end <= moment or moment + n <= first for first, end in stretches):
                return [1, moment]
        return [0]

    def prior(self, key, v):
        over = [number for number in self.of_key(key) if self.entries[number][2] <= v]
        latest = [number for number in over if self.entries[number][2] == max(self.entries[x][2] for x in over)]
        return [1, *self.get(latest[-1])] if latest else [0]

    def following(self, key, v):
        ahead = [number for number in self.of_key(key) if self.entries[number][1] >= v]
        return [1, *self.get(ahead[0])] if ahead else [0]

    def busiest(self, a, b):
        moments = [a] + [moment for moment in self.turns(self.entries) if a < moment < b]
        most = max(self.holding(self.entries, moment) for moment in moments)
        return [most, min(moment for moment in moments if self.holding(self.entries, moment) == most)]

    def path(self, number):
        way = []
        ordered = self.in_order(self.entries)
        while number not in way:
            top = max(ordered, key=weight)
            way.append(top)
            at = ordered.index(top)
            ordered = ordered[:at] if number in ordered[:at] else ordered[at + 1:]
        return [len(way), *way]

    def shape(self):
        told = [len(self.entries)]
        for number, depth in depths(self.in_order(self.entries), 0):
            told += [number, depth]
        return told


def rename(told):
    return {"number" if name == "id" else name: value for name, value in told.items()}


def is_in_range(argument, number):
    if argument == "id":
        return 0 <= number <= 999999
    if argument in ("key", "j", "k"):
        return LOW_KEY <= number <= HIGH_KEY
    return 0 <= number <= LAST or (argument == "b" and number == -1)


def depths(ordered, above):
    if not ordered:
        return []
    top = max(ordered, key=weight)
    at = ordered.index(top)
    return depths(ordered[:at], above + 1) + [(top, above)] + depths(ordered[at + 1:], above + 1)
