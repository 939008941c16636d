"""Promises 6 to 8: get, count, stab, find, inside, around."""

import unittest

from helper import ALL, HIGH_KEY, LAST, LOW_KEY, ask, last, questions_on

# In order: 1 to 8, each with a key of its own; 8 is on top and each is on the left of the one above it.
STRETCHES = {1: (0, 10), 2: (10, 20), 3: (5, 15), 4: (0, 30), 5: (12, 18), 6: (20, 30), 7: (15, -1), 8: (0, -1)}
ROW = [("add", number, number, *stretch) for number, stretch in STRETCHES.items()]


def found(answer):
    return answer[2:]


class Promise6GetAndCount(unittest.TestCase):
    def test_get_tells_the_four_numbers(self):
        self.assertEqual(ask(("add", 999999, LOW_KEY, 0, LAST), ("add", 0, HIGH_KEY, LAST, -1), ("get", 999999),
                             ("get", 0))[2:],
                         [[999999, LOW_KEY, 0, LAST], [0, HIGH_KEY, LAST, -1]])

    def test_get_of_what_is_not_there(self):
        self.assertEqual(ask(("get", 0), ("add", 0, 1, 2, 3), ("get", 1), ("drop", 0), ("get", 0)),
                         [[-3], [1], [-3], [0], [-3]])

    def test_count(self):
        self.assertEqual(ask(("count",), ("add", 3, 1, 2, 3), ("count",), ("add", 4, 1, 2, 3), ("count",), ("drop", 3),
                             ("count",)),
                         [[0], [1], [1], [2], [2], [1], [1]])


class Promise7Stab(unittest.TestCase):
    def test_first_moment_is_in_and_end_is_out(self):
        calls = [("add", 1, 0, 5, 8)]
        self.assertEqual(ask(*calls, ("stab", 4), ("stab", 5), ("stab", 7), ("stab", 8))[1:],
                         [[0, 0], [1, 1, 1], [1, 1, 1], [0, 0]])

    def test_all_keys(self):
        self.assertEqual(last(("add", 1, LOW_KEY, 0, 1), ("add", 2, HIGH_KEY, 0, 1), ("add", 3, 0, 0, 1), ("stab", 0)),
                         [3, 3, 1, 3, 2])

    def test_what_never_ends(self):
        self.assertEqual(ask(("add", 1, 0, 7, -1), ("stab", 6), ("stab", 7), ("stab", LAST))[1:],
                         [[0, 0], [1, 1, 1], [1, 1, 1]])

    def test_at_the_last_moment(self):
        self.assertEqual(ask(("add", 1, 0, LAST, -1), ("add", 2, 0, 0, LAST), ("stab", LAST), ("stab", LAST - 1))[2:],
                         [[1, 2, 1], [1, 1, 2]])

    def test_no_entries(self):
        self.assertEqual(ask(("stab", 0), ("stab", LAST)), [[0, 0], [0, 0]])

    def test_told_in_order_for_equal_keys_firsts_and_stretches(self):
        calls = [("add", 30, 1, 4, 9), ("add", 10, 1, 4, 9), ("add", 20, 1, 4, 6), ("add", 40, 1, 3, 9),
                 ("add", 5, 2, 0, 9), ("add", 50, -1, 5, 9)]
        self.assertEqual(found(last(*calls, ("stab", 5))), [50, 40, 10, 20, 30, 5])


class Promise8FindInsideAround(unittest.TestCase):
    def test_find(self):
        self.assertEqual(last(*ROW, ("find", *ALL, 10, 20)), [6, 7, 2, 3, 4, 5, 7, 8])

    def test_inside(self):
        self.assertEqual(last(*ROW, ("inside", *ALL, 10, 20)), [2, 7, 2, 5])

    def test_around(self):
        self.assertEqual(last(*ROW, ("around", *ALL, 10, 20)), [3, 7, 2, 4, 8])

    def test_window_that_never_ends(self):
        self.assertEqual(ask(*ROW, ("find", *ALL, 15, -1), ("inside", *ALL, 15, -1), ("around", *ALL, 15, -1))[8:],
                         [[6, 7, 2, 4, 5, 6, 7, 8], [2, 7, 6, 7], [2, 7, 7, 8]])

    def test_what_never_ends_is_inside_only_a_window_that_never_ends(self):
        calls = [("add", 1, 0, 5, -1)]
        self.assertEqual(ask(*calls, ("inside", 0, 0, 5, LAST), ("inside", 0, 0, 5, -1), ("inside", 0, 0, 6, -1),
                             ("around", 0, 0, 5, LAST), ("around", 0, 0, 5, -1), ("around", 0, 0, 4, -1))[1:],
                         [[0, 1], [1, 1, 1], [0, 1], [1, 1, 1], [1, 1, 1], [0, 1]])

    def test_equal_bounds_are_inside_and_around(self):
        for a, b, inside, around in ((5, 9, [1], [1]), (4, 9, [1], []), (5, 10, [1], []), (6, 9, [], [1]),
                                     (5, 8, [], [1]), (4, 10, [1], []), (6, 8, [], [1]), (4, 8, [], []),
                                     (6, 10, [], [])):
            with self.subTest(a=a, b=b):
                told = ask(("add", 1, 0, 5, 9), ("inside", 0, 0, a, b), ("around", 0, 0, a, b), ("find", 0, 0, a, b))
                self.assertEqual([found(answer) for answer in told[1:]], [inside, around, [1]])
                self.assertEqual([answer[1] for answer in told[1:]], [1, 1, 1])

    def test_touching_is_not_hitting(self):
        calls = [("add", 1, 0, 5, 9)]
        self.assertEqual(ask(*calls, ("find", 0, 0, 0, 5), ("find", 0, 0, 0, 6), ("find", 0, 0, 8, 20),
                             ("find", 0, 0, 9, 20), ("find", 0, 0, 9, -1))[1:],
                         [[0, 0], [1, 1, 1], [1, 1, 1], [0, 0], [0, 0]])

    def test_both_bounds_of_the_keys_are_in(self):
        self.assertEqual([found(answer) for answer in ask(*ROW, ("find", 3, 5, 0, -1), ("inside", 4, 5, 0, 30),
                                                          ("around", 4, 4, 1, 2))[8:]],
                         [[3, 4, 5], [4, 5], [4]])

    def test_window_without_keys_finds_nothing_but_looks(self):
        calls = [("add", number, number, 0, -1) for number in (1, 2, 3)]
        # On the left of 3, as 3 isn't less than j; but not on the left of 2, nor on its right.
        for name in ("find", "inside", "around"):
            with self.subTest(name=name):
                self.assertEqual(last(*calls, (name, 3, 1, 0, -1)), [0, 2])
                self.assertEqual(last(*calls, (name, HIGH_KEY, LOW_KEY, 0, -1)), [0, 1])

    def test_window_without_keys_does_not_find_the_key_between(self):
        self.assertEqual(last(("add", 1, 2, 0, -1), ("find", 3, 1, 0, -1)), [0, 1])
        self.assertEqual(last(("add", 1, 2, 0, -1), ("find", 2, 1, 0, -1)), [0, 1])
        self.assertEqual(last(("add", 1, 2, 0, -1), ("find", 3, 2, 0, -1)), [0, 1])

    def test_no_entries(self):
        self.assertEqual(ask(("find", *ALL, 0, -1), ("inside", *ALL, 0, -1), ("around", *ALL, 0, -1)),
                         [[0, 0], [0, 0], [0, 0]])

    def test_looked_at_is_the_same_for_all_three(self):
        for window in ((2, 6, 10, 20), (1, 8, 0, 1), (5, 5, 29, -1), (7, 3, 0, -1)):
            told = ask(*ROW, ("find", *window), ("inside", *window), ("around", *window))[8:]
            self.assertEqual(len(set(answer[1] for answer in told)), 1, told)


class QuestionsChangeNothing(unittest.TestCase):
    def test_the_state_is_as_it_was(self):
        before = ask(*ROW, *questions_on(range(1, 9)))[8:]
        asked = [("get", 1), ("get", 99), ("count",), ("stab", 12), ("find", 1, 9, 3, 4), ("inside", 1, 9, 3, -1),
                 ("around", 9, 1, 3, 4), ("place", 3), ("place", 99), ("nth", 2), ("nth", 99), ("held", 7), ("clash", 7),
                 ("covered", 4, 0, -1), ("covered", 4, 5, 5), ("free", 7, 0, 20), ("free", 7, 0, 0), ("prior", 3, 15),
                 ("following", 3, 0), ("busiest", 0, -1), ("path", 1), ("path", 99), ("shape",)]
        self.assertEqual(ask(*ROW, *asked, *questions_on(range(1, 9)))[8 + len(asked):], before)


if __name__ == "__main__":
    unittest.main()
