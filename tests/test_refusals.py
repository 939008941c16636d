"""The arguments' ranges, the refusals -1 to -6, their order, and that what is refused changes nothing."""

import unittest

from helper import ALL, ARGUMENTS, HIGH_KEY, HUGE, LAST, LOW_KEY, ask, last, state_after

# The range of each argument, and one allowed value in the middle of it.
RANGES = {
    "id": (0, 999999, 7), "key": (LOW_KEY, HIGH_KEY, 5), "j": (LOW_KEY, HIGH_KEY, -5), "k": (LOW_KEY, HIGH_KEY, 5),
    "a": (0, LAST, 3), "b": (-1, LAST, -1), "v": (0, LAST, 4), "n": (0, LAST, 2), "i": (0, LAST, 1),
}
ENTRIES = [("add", 1, 5, 3, 9), ("add", 2, 5, 7, -1), ("add", 3, 2, 0, 4)]
FULL = [("add", number, number % 9, number, -1) for number in range(200)]
WITH_STRETCH = ("add", "move", "find", "inside", "around", "covered", "busiest")


def range_of(name, argument):
    return (1, LAST) if (name, argument) == ("free", "n") else RANGES[argument][:2]


def call_with(name, argument, number):
    return (name, *[number if other == argument else RANGES[other][2] for other in ARGUMENTS[name]])


def call_with_stretch(name, a, b):
    told = {argument: RANGES[argument][2] for argument in ARGUMENTS[name]}
    told.update(a=a, b=b)
    if name == "move":
        told["id"] = 1
    return (name, *told.values())


class Minus1OutOfRange(unittest.TestCase):
    def test_both_ends_of_each_range_are_taken(self):
        for name in ARGUMENTS:
            for argument in ARGUMENTS[name]:
                for number in range_of(name, argument):
                    with self.subTest(name=name, argument=argument, number=number):
                        self.assertNotEqual(last(*ENTRIES, call_with(name, argument, number)), [-1])

    def test_one_beyond_either_end_and_far_beyond_are_refused(self):
        for name in ARGUMENTS:
            for argument in ARGUMENTS[name]:
                low, high = range_of(name, argument)
                for number in (low - 1, high + 1, -HUGE, HUGE, -HUGE + 1, HUGE - 1):
                    with self.subTest(name=name, argument=argument, number=number):
                        self.assertEqual(last(*ENTRIES, call_with(name, argument, number)), [-1])

    def test_an_end_of_0_is_in_range_though_never_behind_a(self):
        for name in WITH_STRETCH:
            with self.subTest(name=name):
                self.assertEqual(last(*ENTRIES, call_with(name, "b", 0)), [-2])

    def test_n_may_be_0_in_shift_but_not_in_free(self):
        self.assertEqual(ask(*ENTRIES, ("shift", 5, 5, 0), ("free", 5, 0, 0), ("free", 8, 0, 0), ("free", 5, 0, 1),
                             ("free", 5, 0, -1))[3:],
                         [[2], [-1], [-1], [1, 0], [-1]])

    def test_what_the_ends_of_the_ranges_answer(self):
        self.assertEqual(ask(("add", 0, LOW_KEY, 0, 1), ("add", 999999, HIGH_KEY, LAST, -1), ("place", 0),
                             ("place", 999999), ("path", 0), ("path", 999999), ("held", LOW_KEY), ("held", HIGH_KEY),
                             ("clash", LOW_KEY), ("clash", HIGH_KEY), ("covered", HIGH_KEY, LAST, -1),
                             ("covered", LOW_KEY, 0, LAST), ("free", LOW_KEY, 0, LAST), ("free", HIGH_KEY, LAST, 1),
                             ("prior", LOW_KEY, LAST), ("prior", HIGH_KEY, 0), ("following", LOW_KEY, 0),
                             ("following", HIGH_KEY, LAST), ("busiest", 0, LAST), ("busiest", LAST, -1),
                             ("nth", 0), ("nth", LAST))[2:],
                         [[0], [1], [2, 999999, 0], [1, 999999], [2, 0, 1], [1, LAST], [0], [0], [1], [0, 1], [1, 1], [0],
                          [1, 0, LOW_KEY, 0, 1], [0], [1, 0, LOW_KEY, 0, 1], [1, 999999, HIGH_KEY, LAST, -1], [1, 0],
                          [1, LAST], [0, LOW_KEY, 0, 1], [-3]])

    def test_only_b_may_be_told_as_minus_1(self):
        for call in (("add", -1, 5, 3, 9), ("add", 7, 5, -1, 9), ("add", 7, 5, -1, -1), ("move", 1, -1, -1),
                     ("close", 1, 9, -1), ("purge", -1), ("shift", 1, 9, -1), ("stab", -1), ("find", 1, 9, -1, -1),
                     ("place", -1), ("nth", -1), ("covered", 5, -1, -1), ("free", 5, -1, 1), ("free", 5, 1, -1),
                     ("prior", 5, -1), ("following", 5, -1), ("busiest", -1, -1), ("path", -1)):
            with self.subTest(call=call):
                self.assertEqual(last(*ENTRIES, call), [-1])

    def test_what_is_at_the_ends_is_kept_as_it_is(self):
        self.assertEqual(ask(("add", 0, LOW_KEY, 0, 1), ("add", 999999, HIGH_KEY, LAST, -1), ("move", 0, 0, LAST),
                             ("get", 0), ("get", 999999)),
                         [[1], [2], [0, 1], [0, LOW_KEY, 0, LAST], [999999, HIGH_KEY, LAST, -1]])


class Minus2EmptyStretch(unittest.TestCase):
    def test_a_not_less_than_b(self):
        for name in WITH_STRETCH:
            for a, b in ((4, 4), (5, 4), (LAST, LAST), (LAST, LAST - 1), (0, 0), (LAST, 0)):
                call = call_with_stretch(name, a, b)
                with self.subTest(call=call):
                    self.assertEqual(last(*ENTRIES, call), [-2])

    def test_one_moment_is_enough_and_never_is_behind_every_a(self):
        for name in WITH_STRETCH:
            for a, b in ((0, 1), (LAST - 1, LAST), (0, -1), (LAST, -1)):
                call = call_with_stretch(name, a, b)
                with self.subTest(call=call):
                    self.assertGreaterEqual(last(*ENTRIES, call)[0], 0)

    def test_j_and_k_are_no_stretch(self):
        for call in (("close", 9, 1, 5), ("shift", 9, 1, 5), ("find", 9, 1, 0, 5)):
            self.assertEqual(last(*ENTRIES, call)[0], 0)

    def test_a_and_n_are_no_stretch(self):
        self.assertEqual(last(*ENTRIES, ("free", 2, 9, 3)), [1, 9])


class Minus3NoSuchEntry(unittest.TestCase):
    def test_each_call_that_names_an_entry(self):
        for call in (("drop", 4), ("move", 4, 1, 2), ("rekey", 4, 1), ("get", 4), ("drop", 0), ("get", 999999),
                     ("place", 4), ("place", 0), ("place", 999999), ("path", 4), ("path", 0), ("path", 999999)):
            with self.subTest(call=call):
                self.assertEqual(last(call), [-3])
                self.assertEqual(last(*ENTRIES, call), [-3])

    def test_after_it_is_gone(self):
        for gone in (("drop", 1), ("close", 5, 5, 3), ("purge", 9)):
            for call in (("drop", 1), ("move", 1, 1, 2), ("rekey", 1, 1), ("get", 1), ("place", 1), ("path", 1)):
                with self.subTest(gone=gone, call=call):
                    self.assertEqual(last(*ENTRIES, gone, call), [-3])

    def test_no_entry_at_the_place(self):
        for i, answer in ((0, [3, 2, 0, 4]), (2, [2, 5, 7, -1]), (3, [-3]), (4, [-3]), (LAST, [-3])):
            self.assertEqual(last(*ENTRIES, ("nth", i)), answer)
        self.assertEqual(ask(*FULL, ("nth", 199), ("nth", 200), ("drop", 0), ("nth", 199))[200:],
                         [[197, 8, 197, -1], [-3], [199], [-3]])


class Minus4To6(unittest.TestCase):
    def test_number_taken(self):
        self.assertEqual(ask(*ENTRIES, ("add", 1, 5, 3, 9), ("add", 2, 0, 0, 1))[3:], [[-4], [-4]])

    def test_beyond_the_last_moment(self):
        calls = [("add", 1, 0, 0, LAST - 4), ("add", 2, 1, LAST - 3, -1)]
        self.assertEqual(ask(*calls, ("shift", 0, 0, 5), ("shift", 1, 1, 4), ("shift", *ALL, 4), ("shift", *ALL, LAST),
                             ("shift", *ALL, 3))[2:],
                         [[-5], [-5], [-5], [-5], [2]])

    def test_full(self):
        self.assertEqual(ask(*FULL, ("add", 200, 0, 0, 1), ("add", 999999, 0, 0, -1))[200:], [[-6], [-6]])


class WhereTwoApply(unittest.TestCase):
    def check(self, before, call, refusal):
        with self.subTest(call=call):
            self.assertEqual(last(*before, call), [refusal])

    def test_1_before_2(self):
        for call in (("add", -1, 5, 9, 3), ("add", 7, HIGH_KEY + 1, 9, 9), ("add", 7, 5, LAST + 1, 3),
                     ("add", 7, 5, 9, -2), ("move", 1000000, 9, 3), ("move", 1, HUGE, 3), ("move", 1, 9, -HUGE),
                     ("find", LOW_KEY - 1, 9, 4, 4), ("inside", 1, HIGH_KEY + 1, 4, 4), ("around", 1, 9, 4, -2),
                     ("covered", LOW_KEY - 1, 4, 4), ("covered", HUGE, 5, 4), ("covered", 5, LAST + 1, LAST),
                     ("covered", 5, HUGE, -HUGE), ("covered", 5, 9, -2), ("covered", 5, LAST + 1, LAST + 1),
                     ("busiest", LAST + 1, LAST), ("busiest", 9, -2), ("busiest", HUGE, -HUGE), ("busiest", -1, -2),
                     ("busiest", HUGE, HUGE)):
            self.check(ENTRIES, call, -1)
            self.check([], call, -1)

    def test_1_before_3(self):
        for call in (("drop", -1), ("drop", 1000000), ("get", -HUGE), ("get", HUGE), ("rekey", 4, LOW_KEY - 1),
                     ("rekey", -1, 4), ("move", 4, -1, 5), ("move", 4, 5, LAST + 1), ("move", 1000000, 1, 2),
                     ("place", -1), ("place", 1000000), ("place", -HUGE), ("place", HUGE), ("path", -1),
                     ("path", 1000000), ("path", -HUGE), ("path", HUGE), ("nth", -1), ("nth", LAST + 1), ("nth", -HUGE),
                     ("nth", HUGE)):
            self.check(ENTRIES, call, -1)
            self.check([], call, -1)

    def test_1_before_4(self):
        for call in (("add", 1, HIGH_KEY + 1, 3, 9), ("add", 1, 5, -1, 9), ("add", 1, 5, 3, LAST + 1)):
            self.check(ENTRIES, call, -1)

    def test_1_before_5(self):
        before = [("add", 1, 0, LAST, -1)]
        for call in (("shift", LOW_KEY - 1, HIGH_KEY, 1), ("shift", LOW_KEY, HIGH_KEY + 1, 1), ("shift", *ALL, LAST + 1),
                     ("shift", *ALL, -1)):
            self.check(before, call, -1)

    def test_1_before_6(self):
        for call in (("add", 1000000, 0, 0, 1), ("add", 200, LOW_KEY - 1, 0, 1), ("add", 200, 0, -1, 1),
                     ("add", 200, 0, 0, -2)):
            self.check(FULL, call, -1)

    def test_2_before_3(self):
        self.check(ENTRIES, ("move", 4, 5, 5), -2)
        self.check([], ("move", 4, 6, 5), -2)

    def test_2_before_4(self):
        self.check(ENTRIES, ("add", 1, 5, 9, 3), -2)

    def test_2_before_6(self):
        self.check(FULL, ("add", 200, 5, 9, 9), -2)

    def test_4_before_6(self):
        self.check(FULL, ("add", 199, 5, 3, 9), -4)

    def test_several_at_once(self):
        self.check(FULL, ("add", 199, LOW_KEY - 1, 9, 3), -1)
        self.check(FULL, ("add", 199, 5, 9, 3), -2)
        self.check(ENTRIES, ("move", 4, LAST + 1, 3), -1)


class RefusedChangesNothing(unittest.TestCase):
    def test_each_refusal(self):
        edge = [("add", 4, 6, 10, LAST)]
        for call, refusal in ((("add", 7, HUGE, 0, 1), -1), (("move", 1, 1, HUGE), -1), (("rekey", 1, HUGE), -1),
                              (("drop", -1), -1), (("close", 5, HUGE, 4), -1), (("purge", HUGE), -1),
                              (("shift", 5, 5, HUGE), -1), (("add", 7, 1, 5, 5), -2), (("move", 1, 6, 5), -2),
                              (("move", 7, 1, 2), -3), (("rekey", 7, 1), -3), (("drop", 7), -3),
                              (("add", 1, 9, 9, -1), -4), (("shift", *ALL, 1), -5), (("shift", 6, 6, 1), -5)):
            with self.subTest(call=call):
                self.assertEqual(last(*ENTRIES, *edge, call), [refusal])
                numbers = [1, 2, 3, 4, 7]
                self.assertEqual(state_after([*ENTRIES, *edge, call], numbers),
                                 state_after([*ENTRIES, *edge], numbers))

    def test_full(self):
        numbers = [0, 199, 200]
        self.assertEqual(state_after([*FULL, ("add", 200, 5, 0, 1)], numbers), state_after(FULL, numbers))


if __name__ == "__main__":
    unittest.main()
