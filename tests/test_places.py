"""Promises 9 and 16: place, nth and path."""

import unittest

from helper import LAST, ask, expected, last

THREE = [("add", 1, 5, 3, 9), ("add", 2, 5, 7, -1), ("add", 3, 2, 0, 4)]
# In order 3, 5, 2, 4, 6, 1: by key, then by first moment, then by number.
SIX = [("add", 6, 1, 4, 9), ("add", 2, 1, 4, 9), ("add", 4, 1, 4, 5), ("add", 5, 1, 3, -1), ("add", 1, 2, 0, 9),
       ("add", 3, -1, 5, 9)]
SPREAD = [("add", (number * 7919) % 1000000, number % 7, number * 3 % 40, -1) for number in range(200)]


class Promise9PlaceAndNth(unittest.TestCase):
    def check(self, calls, numbers):
        """After these calls the entries with these numbers are there, in this order."""
        asked = [("place", number) for number in numbers]
        asked += [("nth", i) for i in range(len(numbers))] + [("nth", len(numbers)), ("count",)]
        told = ask(*calls, *asked)[len(calls):]
        many = len(numbers)
        self.assertEqual(told[:many], [[i] for i in range(many)])
        self.assertEqual([answer[0] for answer in told[many:-2]], numbers)
        self.assertEqual(told[-2:], [[-3], [many]])

    def test_by_key_then_first_moment_then_number(self):
        self.check(SIX, [3, 5, 2, 4, 6, 1])
        self.check(SIX[::-1], [3, 5, 2, 4, 6, 1])

    def test_nth_tells_the_four_numbers(self):
        self.assertEqual(ask(*SIX, *[("nth", i) for i in range(6)])[6:],
                         [[3, -1, 5, 9], [5, 1, 3, -1], [2, 1, 4, 9], [4, 1, 4, 5], [6, 1, 4, 9], [1, 2, 0, 9]])

    def test_nth_at_the_last_place_and_behind_it(self):
        self.assertEqual(ask(*SIX, ("nth", 5), ("nth", 6), ("nth", 7), ("nth", LAST))[6:],
                         [[1, 2, 0, 9], [-3], [-3], [-3]])

    def test_no_entries_and_one(self):
        self.assertEqual(ask(("nth", 0), ("place", 0), ("add", 0, 4, 1, 2), ("nth", 0), ("place", 0), ("nth", 1)),
                         [[-3], [-3], [1], [0, 4, 1, 2], [0], [-3]])

    def test_200_entries(self):
        calls = [("add", number, -number, 0, 1) for number in range(200)]
        self.assertEqual(ask(*calls, ("place", 0), ("place", 199), ("place", 60), ("nth", 0), ("nth", 199), ("nth", 200),
                             ("nth", 100))[200:],
                         [[199], [0], [139], [199, -199, 0, 1], [0, 0, 0, 1], [-3], [99, -99, 0, 1]])

    def test_after_add(self):
        self.check([*SIX, ("add", 7, 1, 4, 5)], [3, 5, 2, 4, 6, 7, 1])
        self.check([*SIX, ("add", 0, 1, 4, -1)], [3, 5, 0, 2, 4, 6, 1])

    def test_after_drop(self):
        self.check([*SIX, ("drop", 2)], [3, 5, 4, 6, 1])
        self.check([*SIX, ("drop", 3), ("drop", 1)], [5, 2, 4, 6])

    def test_after_move(self):
        self.check([*SIX, ("move", 5, 4, 6)], [3, 2, 4, 5, 6, 1])
        self.check([*SIX, ("move", 6, 0, -1)], [3, 6, 5, 2, 4, 1])

    def test_after_rekey(self):
        self.check([*SIX, ("rekey", 3, 9)], [5, 2, 4, 6, 1, 3])
        self.check([*SIX, ("rekey", 1, 1)], [3, 1, 5, 2, 4, 6])

    def test_after_close(self):
        self.check([*SIX, ("close", 1, 1, 4)], [3, 5, 1])
        self.assertEqual(last(*SIX, ("close", 1, 1, 4), ("nth", 1)), [5, 1, 3, 4])

    def test_after_purge(self):
        self.check([*SIX, ("purge", 5)], [3, 5, 2, 6, 1])
        self.check([*SIX, ("purge", 9)], [5])

    def test_after_shift(self):
        self.check([*SIX, ("shift", 1, 1, 10)], [3, 5, 2, 4, 6, 1])
        self.assertEqual(last(*SIX, ("shift", 1, 1, 10), ("nth", 3)), [4, 1, 14, 15])
        self.check([*SIX, ("shift", 1, 1, 2), ("rekey", 3, 1)], [3, 5, 2, 4, 6, 1])
        self.check([*SIX, ("shift", 1, 1, 1), ("rekey", 3, 1)], [5, 2, 3, 4, 6, 1])

    def test_ends_do_not_count(self):
        self.check([("add", 1, 0, 5, -1), ("add", 2, 0, 5, 6), ("add", 3, 0, 5, 9)], [1, 2, 3])


class Promise16Path(unittest.TestCase):
    def test_the_documents_tree(self):
        self.assertEqual(ask(*THREE, ("path", 3), ("path", 2), ("path", 1))[3:], [[1, 3], [2, 3, 2], [3, 3, 2, 1]])

    def test_no_entries_and_one(self):
        self.assertEqual(ask(("path", 7), ("add", 7, 1, 2, 3), ("path", 7), ("path", 8)), [[-3], [1], [1, 7], [-3]])

    def test_left_and_right(self):
        calls = [("add", 5, 50, 0, 9), ("add", 4, 30, 0, 9), ("add", 3, 10, 0, 9), ("add", 2, 70, 0, 9),
                 ("add", 1, 90, 0, 9)]
        self.assertEqual(ask(*calls, *[("path", number) for number in range(1, 6)])[5:],
                         [[3, 5, 2, 1], [2, 5, 2], [3, 5, 4, 3], [2, 5, 4], [1, 5]])

    def test_zigzag(self):
        calls = [("add", 5, 1, 0, 1), ("add", 4, 9, 0, 1), ("add", 3, 2, 0, 1), ("add", 2, 8, 0, 1), ("add", 1, 3, 0, 1)]
        self.assertEqual(ask(*calls, ("path", 1), ("path", 3))[5:], [[5, 5, 4, 3, 2, 1], [3, 5, 4, 3]])

    def test_for_equal_keys_by_first_moment_then_by_number(self):
        self.assertEqual(last(("add", 3, 5, 5, 6), ("add", 1, 5, 4, 9), ("add", 2, 5, 9, 10), ("path", 1)), [2, 3, 1])
        self.assertEqual(last(("add", 3, 5, 5, 6), ("add", 1, 5, 9, 10), ("add", 2, 5, 4, 9), ("path", 1)), [2, 3, 1])
        self.assertEqual(last(("add", 3, 5, 5, 6), ("add", 2, 5, 5, 6), ("add", 1, 5, 5, 6), ("path", 1)), [3, 3, 2, 1])

    def test_as_deep_as_there_are_entries(self):
        for sign in (1, -1):
            calls = [("add", number, sign * number, 0, 1) for number in range(200)]
            self.assertEqual(ask(*calls, ("path", 0), ("path", 1), ("path", 199), ("path", 150))[200:],
                             [[200, *range(199, -1, -1)], [199, *range(199, 0, -1)], [1, 199],
                              [50, *range(199, 149, -1)]])

    def test_200_entries(self):
        for part in (SPREAD[:100], SPREAD[100:]):
            calls = [*SPREAD, ("shape",)] + [("path", add[1]) for add in part]
            told = ask(*calls)
            self.assertEqual(told, expected(calls))
            shape = told[200]
            depths = dict(zip(shape[1::2], shape[2::2]))
            for add, answer in zip(part, told[201:]):
                self.assertEqual(answer[0], depths[add[1]] + 1)
                self.assertEqual(answer[-1], add[1])
                self.assertEqual([depths[number] for number in answer[1:]], list(range(answer[0])))

    def test_after_changes(self):
        for changes, way in (([("drop", 3)], [2, 2, 1]), ([("add", 4, 9, 0, 1)], [4, 4, 3, 2, 1]),
                             ([("move", 1, 8, 9)], [3, 3, 2, 1]), ([("rekey", 1, 1)], [2, 3, 1]),
                             ([("close", 5, 5, 7)], [2, 3, 1]), ([("purge", 4)], [2, 2, 1]),
                             ([("rekey", 2, 2), ("rekey", 1, 2)], [3, 3, 2, 1]),
                             ([("rekey", 2, 2), ("shift", 2, 2, 9), ("rekey", 1, 2)], [2, 3, 1])):
            with self.subTest(changes=changes):
                self.assertEqual(last(*THREE, *changes, ("path", 1)), way)


if __name__ == "__main__":
    unittest.main()
