"""Promise 17, and the tree: its form, what is passed over, and how many entries are looked at."""

import itertools
import unittest

from helper import ALL, ask, expected, last

THREE = [("add", 1, 5, 3, 9), ("add", 2, 5, 7, -1), ("add", 3, 2, 0, 4)]


class Promise17Shape(unittest.TestCase):
    def test_no_entries_and_one(self):
        self.assertEqual(ask(("shape",), ("add", 7, 1, 2, 3), ("shape",)), [[0], [1], [1, 7, 0]])

    def test_the_documents_tree(self):
        self.assertEqual(last(*THREE, ("shape",)), [3, 3, 0, 1, 2, 2, 1])

    def test_weights_go_round(self):
        # 44488 has the weight 2147480259; 44489 has 44883, less than 48282 of 1; 0 has 11.
        self.assertEqual(last(("add", 1, 1, 0, 1), ("add", 44489, 2, 0, 1), ("shape",)), [2, 1, 0, 44489, 1])
        self.assertEqual(last(("add", 44489, 1, 0, 1), ("add", 44488, 2, 0, 1), ("add", 0, 3, 0, 1), ("add", 1, 4, 0, 1),
                              ("shape",)), [4, 44489, 1, 44488, 0, 0, 2, 1, 1])

    def test_the_greatest_number(self):
        # 999999 * 48271 + 11 leaves 1026311506, more than 44489's 44883 and less than 44488's.
        self.assertEqual(last(("add", 999999, 1, 0, 1), ("add", 44488, 2, 0, 1), ("add", 44489, 0, 0, 1), ("shape",)),
                         [3, 44489, 2, 999999, 1, 44488, 0])

    def test_weights_that_lie_close(self):
        for lighter, heavier in ((622833, 578345), (355905, 978738), (0, 622833), (44488, 667321), (711809, 44488)):
            with self.subTest(lighter=lighter, heavier=heavier):
                self.assertEqual(last(("add", lighter, 1, 0, 1), ("add", heavier, 2, 0, 1), ("shape",)),
                                 [2, lighter, 1, heavier, 0])

    def test_order_by_key_then_first_moment_then_number(self):
        calls = [("add", 6, 1, 4, 9), ("add", 2, 1, 4, 9), ("add", 4, 1, 4, 5), ("add", 5, 1, 3, -1),
                 ("add", 1, 2, 0, 9), ("add", 3, -1, 5, 9)]
        self.assertEqual(last(*calls, ("shape",)), [6, 3, 2, 5, 1, 2, 3, 4, 2, 6, 0, 1, 1])

    def test_as_deep_as_there_are_entries(self):
        for sign in (1, -1):
            calls = [("add", number, sign * number, 0, 1) for number in range(200)]
            told = last(*calls, ("shape",))
            pairs = [[number, 199 - number] for number in range(200)][::sign]
            self.assertEqual(told, [200] + [part for pair in pairs for part in pair])

    def test_200_entries(self):
        for step in (7919, 44489, 622833, 4999):
            calls = [("add", number * step % 1000000, number % 7, number * 3 % 40, -1) for number in range(200)]
            calls.append(("shape",))
            told = ask(*calls)
            self.assertEqual(told, expected(calls))
            self.assertEqual(len(told[-1]), 401)
            self.assertEqual(told[-1][2::2].count(0), 1)

    def test_zigzag(self):
        # Each top lies at the other side of what is left than the one above it.
        calls = [("add", 5, 1, 0, 1), ("add", 4, 9, 0, 1), ("add", 3, 2, 0, 1), ("add", 2, 8, 0, 1), ("add", 1, 3, 0, 1)]
        self.assertEqual(last(*calls, ("shape",)), [5, 5, 0, 3, 2, 1, 4, 2, 3, 4, 1])


class FormHangsOnEntriesAlone(unittest.TestCase):
    ENTRIES = [("add", 1, 3, 0, 9), ("add", 2, 1, 5, -1), ("add", 44489, 3, 0, 9), ("add", 9, 3, 2, 4), ("add", 0, 2, 2, 3)]
    SHAPE = [5, 2, 1, 0, 3, 1, 2, 44489, 3, 9, 0]

    def test_in_whatever_order_they_came(self):
        for adds in itertools.permutations(self.ENTRIES):
            self.assertEqual(last(*adds, ("shape",)), self.SHAPE)

    def check(self, *calls):
        """After these calls on all sorts of entries, the tree is that of ENTRIES in form and in search."""
        asked = [("shape",), ("find", *ALL, 0, -1), ("stab", 4), ("find", 2, 3, 4, 5), ("find", 3, 1, 0, -1)]
        self.assertEqual(ask(*calls, *asked)[-5:], ask(*self.ENTRIES, *asked)[-5:])
        self.assertEqual(last(*calls, ("shape",)), self.SHAPE)

    def test_after_drop(self):
        self.check(("add", 500, 2, 2, 3), *self.ENTRIES, ("add", 600, 3, 1, -1), ("drop", 600), ("drop", 500))

    def test_after_move(self):
        self.check(("add", 9, 3, 0, 1), ("add", 1, 3, 7, -1), ("add", 2, 1, 5, -1), ("add", 44489, 3, 0, 9),
                   ("add", 0, 2, 2, 3), ("move", 1, 0, 9), ("move", 9, 2, 4))

    def test_after_rekey(self):
        self.check(("add", 9, 0, 2, 4), ("add", 1, 4, 0, 9), ("add", 2, 1, 5, -1), ("add", 44489, 3, 0, 9),
                   ("add", 0, 2, 2, 3), ("rekey", 9, 3), ("rekey", 1, 3))

    def test_after_close(self):
        adds = [("add", 1, 3, 0, 15), ("add", 44489, 3, 0, -1), ("add", 700, 3, 9, 10), ("add", 701, 3, 10, -1)]
        self.check(*adds, ("add", 9, 3, 2, 4), ("add", 2, 1, 5, -1), ("add", 0, 2, 2, 3), ("close", 3, 3, 9))

    def test_after_purge(self):
        adds = [("add", 2, 1, 5, -1), ("add", 9, 3, 2, 4), ("add", 800, 0, 0, 2), ("add", 801, 3, 1, 2)]
        self.check(*adds, *[add for add in self.ENTRIES if add not in adds], ("purge", 2))

    def test_after_shift(self):
        self.check(("add", 2, 1, 3, -1), ("add", 0, 2, 0, 1), ("shift", 1, 2, 2), *self.ENTRIES[:1], *self.ENTRIES[2:4])

    def test_shift_changes_form_as_the_order_changes(self):
        calls = [("add", 1, 1, 5, 6), ("add", 2, 2, 0, 1), ("rekey", 2, 1), ("shape",), ("rekey", 2, 2),
                 ("shift", 2, 2, 9), ("rekey", 2, 1), ("shape",)]
        told = ask(*calls)
        self.assertEqual([told[3], told[7]], [[2, 2, 0, 1, 1], [2, 1, 1, 2, 0]])


class PassedOverByItsGreatestEnd(unittest.TestCase):
    # 2 is on top, 1 on its left.
    LEFT = [("add", 1, 1, 0, 10), ("add", 2, 2, 0, 20)]
    # 2 is on top, 1 on its right.
    RIGHT = [("add", 1, 3, 0, 10), ("add", 2, 2, 0, 20)]

    def test_left(self):
        self.assertEqual(ask(*self.LEFT, ("find", *ALL, 9, -1), ("find", *ALL, 10, -1), ("find", *ALL, 19, -1),
                             ("find", *ALL, 20, -1), ("stab", 9), ("stab", 10), ("stab", 20))[2:],
                         [[2, 2, 1, 2], [1, 1, 2], [1, 1, 2], [0, 0], [2, 2, 1, 2], [1, 1, 2], [0, 0]])

    def test_right(self):
        self.assertEqual(ask(*self.RIGHT, ("find", *ALL, 9, -1), ("find", *ALL, 10, -1))[2:], [[2, 2, 2, 1], [1, 1, 2]])

    def test_not_if_one_below_reaches_further(self):
        calls = [("add", 3, 1, 0, 2), ("add", 2, 2, 0, 2), ("add", 1, 3, 0, 9)]
        self.assertEqual(ask(*calls, ("stab", 1), ("stab", 5), ("stab", 8), ("stab", 9))[3:],
                         [[3, 3, 3, 2, 1], [1, 3, 1], [1, 3, 1], [0, 0]])

    def test_not_if_one_below_never_ends(self):
        for key in (0, 9):
            calls = [("add", 3, 4, 0, 2), ("add", 1, key, 0, -1)]
            self.assertEqual(last(*calls, ("stab", 1000000000)), [1, 2, 1])

    def test_after_the_end_was_changed(self):
        calls = [("add", 1, 1, 0, -1), ("add", 2, 2, 0, 20)]
        self.assertEqual(ask(*calls, ("stab", 15), ("close", 1, 1, 10), ("stab", 15), ("move", 1, 0, 16), ("stab", 15),
                             ("shift", 1, 1, 5), ("stab", 20))[2:],
                         [[2, 2, 1, 2], [1, 0], [1, 1, 2], [0, 10], [2, 2, 1, 2], [1], [1, 2, 1]])


class PassedOverByItsLeastFirstMoment(unittest.TestCase):
    LEFT = [("add", 1, 1, 20, 30), ("add", 2, 2, 5, 40)]
    RIGHT = [("add", 1, 3, 20, -1), ("add", 2, 2, 5, 40)]

    def test_left(self):
        self.assertEqual(ask(*self.LEFT, ("find", *ALL, 0, 20), ("find", *ALL, 0, 21), ("find", *ALL, 0, 5),
                             ("find", *ALL, 0, 6), ("stab", 19), ("stab", 20), ("stab", 4))[2:],
                         [[1, 1, 2], [2, 2, 1, 2], [0, 0], [1, 1, 2], [1, 1, 2], [2, 2, 1, 2], [0, 0]])

    def test_right(self):
        self.assertEqual(ask(*self.RIGHT, ("find", *ALL, 0, 20), ("find", *ALL, 0, 21))[2:], [[1, 1, 2], [2, 2, 2, 1]])

    def test_not_if_one_below_begins_earlier(self):
        calls = [("add", 3, 1, 8, 9), ("add", 2, 2, 8, 9), ("add", 1, 3, 2, 9)]
        self.assertEqual(ask(*calls, ("find", *ALL, 0, 3), ("find", *ALL, 0, 2), ("find", *ALL, 0, 9))[3:],
                         [[1, 3, 1], [0, 0], [3, 3, 3, 2, 1]])

    def test_never_by_a_window_that_never_ends(self):
        self.assertEqual(last(("add", 1, 1, 1000000000, -1), ("find", 1, 1, 0, -1)), [1, 1, 1])

    def test_looked_at_though_none_holds_then(self):
        # One ended before the window and one begins behind it: the whole is not passed over, the left is.
        self.assertEqual(last(("add", 1, 1, 0, 5), ("add", 2, 2, 50, 60), ("find", *ALL, 10, 20)), [0, 1])


class SearchedByKeys(unittest.TestCase):
    # 5 is on top with the key 50; the others hang in two rows, 4 and 3 on the left, 2 and 1 on the right.
    TREE = [("add", 5, 50, 0, 9), ("add", 4, 30, 0, 9), ("add", 3, 10, 0, 9), ("add", 2, 70, 0, 9), ("add", 1, 90, 0, 9)]

    def test_the_form(self):
        self.assertEqual(last(*self.TREE, ("shape",)), [5, 3, 2, 4, 1, 5, 0, 2, 1, 1, 2])

    def test_windows(self):
        for j, k, answer in ((50, 50, [1, 3, 5]), (51, 51, [0, 2]), (49, 49, [0, 2]), (31, 50, [1, 3, 5]),
                             (30, 49, [1, 3, 4]), (30, 30, [1, 3, 4]), (10, 10, [1, 3, 3]), (0, 9, [0, 3]),
                             (70, 70, [1, 3, 2]), (71, 71, [0, 3]), (69, 69, [0, 2]), (90, 90, [1, 3, 1]),
                             (91, 99, [0, 3]), (10, 90, [5, 5, 3, 4, 5, 2, 1]), (90, 10, [0, 1]), (60, 40, [0, 1])):
            with self.subTest(j=j, k=k):
                self.assertEqual(last(*self.TREE, ("find", j, k, 0, 9)), answer)

    def test_equal_keys_on_both_sides_of_the_top(self):
        calls = [("add", 1, 5, 0, 9), ("add", 3, 5, 1, 9), ("add", 2, 5, 2, 9)]
        self.assertEqual(ask(*calls, ("find", 5, 5, 3, 4), ("find", 6, 6, 3, 4), ("find", 4, 4, 3, 4))[3:],
                         [[3, 3, 1, 3, 2], [0, 2], [0, 2]])


if __name__ == "__main__":
    unittest.main()
