"""The program against the slow model in helper.py, on many lists of calls made from fixed seeds."""

import random
import unittest

from helper import ARGUMENTS, HIGH_KEY, HUGE, LAST, LOW_KEY, Model, ask, expected

CHANGES = ["add", "add", "add", "add", "drop", "move", "rekey", "close", "purge", "shift"]
QUESTIONS = [name for name in ARGUMENTS if name not in CHANGES]


def argument(source, name, span, number_pool):
    if source.random() < 0.01:
        return source.choice([-HUGE, HUGE, -1, -2, LAST, LAST + 1, LOW_KEY, HIGH_KEY, HIGH_KEY + 1, 999999, 1000000])
    if name == "id":
        return source.choice(number_pool)
    if name in ("key", "j", "k"):
        return source.randint(-4, 4)
    if name == "b":
        return -1 if source.random() < 0.2 else source.randint(0, span)
    if name == "n":
        return source.randint(0, 3)
    if name == "i":
        return source.randint(0, source.choice([3, 30, 200]))
    return source.randint(0, span)


def some_calls(seed):
    source = random.Random(seed)
    span = source.choice([4, 12, 60, LAST])
    pool = [source.randint(0, 999999) for many in range(source.choice([3, 12, 60, 300]))]
    rare = source.random() < 0.5
    calls = []
    for many in range(source.choice([1, 50, 400])):
        names = CHANGES if source.random() < 0.6 else QUESTIONS
        name = source.choice(names)
        if rare and name in ("close", "purge", "shift") and source.random() < 0.9:
            name = "add"
        told = [argument(source, other, span, pool) for other in ARGUMENTS[name]]
        if {"a", "b"} <= set(ARGUMENTS[name]) and told[-1] != -1 and source.random() < 0.9:
            told[-2:] = sorted(told[-2:])
        calls.append((name, *told))
    return calls


class AgainstModel(unittest.TestCase):
    def test_many_lists(self):
        for seed in range(300):
            calls = some_calls(seed)
            for call, answer, wanted in zip(calls, ask(*calls), expected(calls)):
                self.assertEqual(answer, wanted, (seed, call))

    def test_the_lists_reach_every_answer(self):
        seen = set()
        most = 0
        for seed in range(300):
            model = Model()
            for call in some_calls(seed):
                answer = model.answer(call)
                seen.add((call[0], min(answer[0], 0)))
                most = max(most, len(model.entries))
        for name in ARGUMENTS:
            self.assertIn((name, 0), seen)
            if ARGUMENTS[name]:
                self.assertIn((name, -1), seen)
        self.assertLessEqual({("move", -2), ("covered", -2), ("busiest", -2), ("drop", -3), ("place", -3), ("path", -3),
                              ("nth", -3), ("add", -4), ("shift", -5)}, seen)
        self.assertGreater(most, 80)


if __name__ == "__main__":
    unittest.main()
