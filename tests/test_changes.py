"""Promises 1 to 5: the calls that change the entries."""

import unittest

from helper import ALL, HIGH_KEY, LAST, LOW_KEY, ask, last

THREE = [("add", 1, 5, 3, 9), ("add", 2, 5, 7, -1), ("add", 3, 2, 0, 4)]


class Promise1AddAndDrop(unittest.TestCase):
    def test_add_tells_how_many_there_are_then(self):
        self.assertEqual(ask(*THREE), [[1], [2], [3]])

    def test_add_keeps_number_key_and_stretch(self):
        self.assertEqual(ask(*THREE, ("get", 1), ("get", 2), ("get", 3))[3:],
                         [[1, 5, 3, 9], [2, 5, 7, -1], [3, 2, 0, 4]])

    def test_drop_tells_how_many_are_left(self):
        self.assertEqual(ask(*THREE, ("drop", 2), ("get", 2), ("get", 1), ("drop", 1), ("drop", 3), ("count",))[3:],
                         [[2], [-3], [1, 5, 3, 9], [1], [0], [0]])

    def test_a_number_may_come_again_after_drop(self):
        self.assertEqual(ask(*THREE, ("drop", 1), ("add", 1, 8, 0, 1), ("get", 1))[3:], [[2], [3], [1, 8, 0, 1]])

    def test_entries_may_share_key_and_stretch(self):
        self.assertEqual(ask(("add", 9, 4, 1, 2), ("add", 8, 4, 1, 2), ("add", 7, 4, 1, 2), ("drop", 8),
                             ("find", 4, 4, 1, 2)),
                         [[1], [2], [3], [2], [2, 2, 7, 9]])

    def test_the_200th_comes_in_and_the_201st_does_not(self):
        calls = [("add", number, 0, number, -1) for number in range(199)]
        told = ask(*calls, ("add", 199, 0, 0, 1), ("add", 200, 0, 0, 1), ("add", 199, 0, 0, 1), ("count",),
                   ("get", 200), ("drop", 0), ("add", 200, 0, 0, 1), ("add", 0, 0, 0, 1), ("count",))
        self.assertEqual(told[:199], [[many] for many in range(1, 200)])
        self.assertEqual(told[199:], [[200], [-6], [-4], [200], [-3], [199], [200], [-6], [200]])


class Promise2MoveAndRekey(unittest.TestCase):
    def test_move_tells_the_stretch_before(self):
        self.assertEqual(ask(*THREE, ("move", 1, 4, 6), ("get", 1), ("move", 1, 0, -1), ("move", 1, 8, 9),
                             ("get", 1))[3:],
                         [[3, 9], [1, 5, 4, 6], [4, 6], [0, -1], [1, 5, 8, 9]])

    def test_move_leaves_the_others(self):
        self.assertEqual(ask(*THREE, ("move", 1, 4, 6), ("get", 2), ("get", 3), ("count",))[4:],
                         [[2, 5, 7, -1], [3, 2, 0, 4], [3]])

    def test_move_changes_the_order(self):
        self.assertEqual(ask(*THREE, ("find", 5, 5, 0, -1), ("move", 1, 8, 9), ("find", 5, 5, 0, -1))[3:],
                         [[2, 3, 1, 2], [3, 9], [2, 3, 2, 1]])

    def test_rekey_tells_0_and_the_key_before(self):
        self.assertEqual(ask(*THREE, ("rekey", 1, -7), ("get", 1), ("rekey", 1, LOW_KEY), ("rekey", 1, HIGH_KEY),
                             ("get", 1), ("get", 2))[3:],
                         [[0, 5], [1, -7, 3, 9], [0, -7], [0, LOW_KEY], [1, HIGH_KEY, 3, 9], [2, 5, 7, -1]])

    def test_rekey_changes_the_order(self):
        self.assertEqual(ask(*THREE, ("rekey", 2, 1), ("find", *ALL, 0, -1))[3:], [[0, 5], [3, 3, 2, 3, 1]])


class Promise3Close(unittest.TestCase):
    def test_first_moment_just_at_before_and_behind(self):
        self.assertEqual(ask(("add", 1, 0, 9, 20), ("add", 2, 0, 10, 20), ("add", 3, 0, 11, 20), ("close", 0, 0, 10),
                             ("get", 1), ("get", 2), ("get", 3), ("count",))[3:],
                         [[1, 2], [1, 0, 9, 10], [-3], [-3], [1]])

    def test_end_just_at_before_and_behind(self):
        self.assertEqual(ask(("add", 1, 0, 1, 9), ("add", 2, 0, 1, 10), ("add", 3, 0, 1, 11), ("close", 0, 0, 10),
                             ("get", 1), ("get", 2), ("get", 3))[3:],
                         [[1, 0], [1, 0, 1, 9], [2, 0, 1, 10], [3, 0, 1, 10]])

    def test_those_that_never_end(self):
        self.assertEqual(ask(("add", 1, 0, 4, -1), ("add", 2, 0, 5, -1), ("close", 0, 0, 5), ("get", 1), ("get", 2),
                             ("close", 0, 0, 5))[2:],
                         [[1, 1], [1, 0, 4, 5], [-3], [0, 0]])

    def test_only_keys_from_j_to_k(self):
        calls = [("add", key, key, 0, 9) for key in range(5)]
        self.assertEqual(ask(*calls, ("close", 1, 3, 4), *[("get", key) for key in range(5)])[5:],
                         [[3, 0], [0, 0, 0, 9], [1, 1, 0, 4], [2, 2, 0, 4], [3, 3, 0, 4], [4, 4, 0, 9]])

    def test_no_keys_if_k_is_less_than_j(self):
        self.assertEqual(ask(*THREE, ("close", 5, 2, 0), ("close", 5, 4, 8), ("count",), ("get", 2))[3:],
                         [[0, 0], [0, 0], [3], [2, 5, 7, -1]])

    def test_at_moment_0_all_go(self):
        self.assertEqual(ask(*THREE, ("close", *ALL, 0), ("count",), ("shape",))[3:], [[0, 3], [0], [0]])

    def test_at_the_last_moment(self):
        self.assertEqual(ask(("add", 1, 0, LAST, -1), ("add", 2, 0, 0, -1), ("add", 3, 0, 0, LAST),
                             ("close", 0, 0, LAST), ("get", 2), ("get", 3))[3:],
                         [[1, 1], [2, 0, 0, LAST], [3, 0, 0, LAST]])

    def test_no_entries(self):
        self.assertEqual(ask(("close", *ALL, 5)), [[0, 0]])


class Promise4Purge(unittest.TestCase):
    def test_ends_at_before_and_behind(self):
        self.assertEqual(ask(("add", 1, 0, 0, 9), ("add", 2, 7, 0, 10), ("add", 3, -7, 0, 11), ("purge", 10),
                             ("get", 1), ("get", 2), ("get", 3), ("count",))[3:],
                         [[2], [-3], [-3], [3, -7, 0, 11], [1]])

    def test_what_never_ends_stays(self):
        self.assertEqual(ask(("add", 1, 0, 0, -1), ("add", 2, 0, 0, LAST), ("purge", LAST), ("purge", LAST),
                             ("get", 1))[2:],
                         [[1], [0], [1, 0, 0, -1]])

    def test_at_moment_0_none_go(self):
        self.assertEqual(ask(("add", 1, 0, 0, 1), ("purge", 0), ("purge", 1), ("purge", 1))[1:], [[0], [1], [0]])


class Promise5Shift(unittest.TestCase):
    def test_firsts_and_ends_are_greater_and_never_stays(self):
        self.assertEqual(ask(*THREE, ("shift", 5, 5, 10), ("get", 1), ("get", 2), ("get", 3))[3:],
                         [[2], [1, 5, 13, 19], [2, 5, 17, -1], [3, 2, 0, 4]])

    def test_both_bounds_of_the_keys_are_in(self):
        calls = [("add", key, key, 0, 9) for key in range(5)]
        self.assertEqual(ask(*calls, ("shift", 1, 3, 1), *[("get", key) for key in range(5)])[5:],
                         [[3], [0, 0, 0, 9], [1, 1, 1, 10], [2, 2, 1, 10], [3, 3, 1, 10], [4, 4, 0, 9]])

    def test_no_keys_if_k_is_less_than_j(self):
        self.assertEqual(ask(*THREE, ("shift", 5, 2, LAST), ("get", 1))[3:], [[0], [1, 5, 3, 9]])

    def test_by_0(self):
        self.assertEqual(ask(*THREE, ("shift", *ALL, 0), ("get", 1), ("get", 2))[3:],
                         [[3], [1, 5, 3, 9], [2, 5, 7, -1]])

    def test_just_to_the_last_moment_and_one_beyond(self):
        for stretch, many in (((0, 10), LAST - 10), ((10, -1), LAST - 10), ((LAST - 1, LAST), 0), ((LAST, -1), 0)):
            with self.subTest(stretch=stretch):
                end = -1 if stretch[1] == -1 else stretch[1] + many
                self.assertEqual(ask(("add", 1, 0, *stretch), ("shift", 0, 0, many + 1), ("get", 1),
                                     ("shift", 0, 0, many), ("get", 1))[1:],
                                 [[-5], [1, 0, *stretch], [1], [1, 0, stretch[0] + many, end]])

    def test_refused_if_one_of_several_would_be_beyond(self):
        for order in ((1, 2), (2, 1)):
            with self.subTest(order=order):
                adds = {1: ("add", 1, 0, 0, 1), 2: ("add", 2, 1, 0, LAST)}
                self.assertEqual(ask(*[adds[number] for number in order], ("shift", 0, 1, 1), ("get", 1), ("get", 2),
                                     ("shift", 0, 0, 1), ("get", 1))[2:],
                                 [[-5], [1, 0, 0, 1], [2, 1, 0, LAST], [1], [1, 0, 1, 2]])

    def test_others_do_not_stand_in_the_way(self):
        self.assertEqual(last(("add", 1, 0, 0, LAST), ("add", 2, 1, LAST, -1), ("add", 3, 2, 0, 1),
                              ("shift", 2, HIGH_KEY, LAST - 1)), [1])


if __name__ == "__main__":
    unittest.main()
