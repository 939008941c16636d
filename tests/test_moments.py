"""Promises 10 to 15: held, clash, covered, free, prior, following, busiest."""

import random
import unittest

from helper import HIGH_KEY, LAST, LOW_KEY, ask, last

KEY = 5
# Neighbours of KEY in the order, which hold always, often or twice: none of them may count.
OTHERS = [("add", 900, KEY - 1, 0, -1), ("add", 901, KEY + 1, 0, -1), ("add", 902, KEY - 1, 0, -1),
          ("add", 903, KEY + 1, 6, 7), ("add", 904, LOW_KEY, 1, 9), ("add", 905, HIGH_KEY, 1, 9),
          ("add", 906, -KEY, 2, 3)]

TOUCHING = [(3, 9), (9, 12)]
APART = [(3, 9), (10, 12)]
OVERLAPPING = [(3, 9), (5, 12)]
WITHIN = [(3, 12), (5, 7)]
ALIKE = [(3, 9), (3, 9)]


def adds(stretches):
    """Entries with the key KEY and the numbers 1, 2, .. in the order of their stretches."""
    return [("add", number, KEY, *stretch) for number, stretch in enumerate(stretches, start=1)]


class OfOneKey(unittest.TestCase):
    def check(self, stretches, name, *told_and_answer):
        """For entries with these stretches the call gives this answer, whatever else there is and in whatever order."""
        *told, answer = told_and_answer
        calls = adds(stretches)
        for before in (calls, calls[::-1], OTHERS + calls, calls + OTHERS):
            with self.subTest(before=before, name=name, told=told):
                self.assertEqual(last(*before, (name, KEY, *told)), answer)


class Promise10Held(OfOneKey):
    def test_a_key_that_no_entry_has(self):
        self.check([], "held", [0])

    def test_one_entry(self):
        self.check([(3, 9)], "held", [2, 3, 9])
        self.check([(0, 1)], "held", [2, 0, 1])
        self.check([(LAST - 1, LAST)], "held", [2, LAST - 1, LAST])

    def test_apart(self):
        self.check(APART, "held", [4, 3, 9, 10, 12])
        self.check([(0, 1), (2, 3), (4, 5), (6, LAST)], "held", [8, 0, 1, 2, 3, 4, 5, 6, LAST])

    def test_touching_stretches_are_told_as_one(self):
        self.check(TOUCHING, "held", [2, 3, 12])
        self.check([(0, 1), (1, 2), (2, 5), (5, 6)], "held", [2, 0, 6])
        self.check([(0, 10), (2, 4), (10, 12)], "held", [2, 0, 12])
        self.check([(0, 4), (0, 4), (4, 5), (4, 6), (6, 7), (8, 9)], "held", [4, 0, 7, 8, 9])

    def test_overlapping_within_and_alike(self):
        self.check(OVERLAPPING, "held", [2, 3, 12])
        self.check(WITHIN, "held", [2, 3, 12])
        self.check(ALIKE, "held", [2, 3, 9])
        self.check([(3, 12), (3, 5), (7, 12), (14, 15)], "held", [4, 3, 12, 14, 15])

    def test_a_set_that_never_ends_has_an_odd_number_of_bounds(self):
        self.check([(3, -1)], "held", [1, 3])
        self.check([(0, -1)], "held", [1, 0])
        self.check([(LAST, -1)], "held", [1, LAST])
        self.check([(3, 9), (20, -1)], "held", [3, 3, 9, 20])
        self.check([(1, 2), (3, 4), (5, -1)], "held", [5, 1, 2, 3, 4, 5])

    def test_never_ending_beside_others(self):
        self.check([(3, 9), (9, -1)], "held", [1, 3])
        self.check([(3, -1), (5, 9)], "held", [1, 3])
        self.check([(3, -1), (5, -1)], "held", [1, 3])
        self.check([(3, -1), (3, -1)], "held", [1, 3])
        self.check([(0, LAST), (LAST, -1)], "held", [1, 0])

    def test_each_key_has_its_own(self):
        calls = [("add", 1, LOW_KEY, 1, 2), ("add", 2, HIGH_KEY, 2, 3), ("add", 3, 0, 3, -1), ("add", 4, -1, 4, 5)]
        self.assertEqual(ask(*calls, *[("held", key) for key in (LOW_KEY, HIGH_KEY, 0, -1, 1)])[4:],
                         [[2, 1, 2], [2, 2, 3], [1, 3], [2, 4, 5], [0]])


class Promise11Clash(OfOneKey):
    def test_none(self):
        for stretches in ([], [(3, 9)], [(3, -1)], TOUCHING, APART, [(3, 9), (9, -1)], [(0, LAST), (LAST, -1)],
                          [(0, 1), (1, 2), (2, 3)]):
            self.check(stretches, "clash", [0])

    def test_overlapping_within_and_alike(self):
        self.check(OVERLAPPING, "clash", [1, 5])
        self.check(WITHIN, "clash", [1, 5])
        self.check(ALIKE, "clash", [1, 3])
        self.check([(0, 1), (0, 1)], "clash", [1, 0])

    def test_by_one_moment(self):
        self.check([(0, 5), (4, 9)], "clash", [1, 4])
        self.check([(LAST - 1, LAST), (0, LAST)], "clash", [1, LAST - 1])

    def test_never_ending(self):
        self.check([(3, -1), (5, 9)], "clash", [1, 5])
        self.check([(3, -1), (7, -1)], "clash", [1, 7])
        self.check([(3, 9), (8, -1)], "clash", [1, 8])
        self.check([(0, -1), (LAST, -1)], "clash", [1, LAST])

    def test_the_first_of_several(self):
        self.check([(0, 2), (1, 3), (10, 20), (15, 30)], "clash", [1, 1])
        self.check([(0, 20), (15, 30), (15, 16), (15, 17)], "clash", [1, 15])
        self.check([(0, 5), (5, 10), (7, 8)], "clash", [1, 7])
        self.check([(0, 5), (5, 6), (5, 7)], "clash", [1, 5])


class Promise12Covered(OfOneKey):
    def test_a_key_that_no_entry_has(self):
        for a, b in ((0, 1), (0, -1), (7, 9), (LAST, -1)):
            self.check([], "covered", a, b, [0, a])

    def test_one_entry(self):
        for a, b, answer in ((3, 9, [1]), (4, 8, [1]), (3, 4, [1]), (8, 9, [1]), (2, 9, [0, 2]), (2, 3, [0, 2]),
                             (3, 10, [0, 9]), (8, 10, [0, 9]), (9, 10, [0, 9]), (0, 3, [0, 0]), (3, -1, [0, 9]),
                             (20, 30, [0, 20]), (20, -1, [0, 20])):
            self.check([(3, 9)], "covered", a, b, answer)

    def test_in_a_gap(self):
        for a, b, answer in ((3, 12, [0, 9]), (9, 10, [0, 9]), (9, 12, [0, 9]), (10, 12, [1]), (3, 9, [1]), (3, 10, [0, 9]),
                             (11, 13, [0, 12]), (0, 12, [0, 0])):
            self.check(APART, "covered", a, b, answer)
        self.check([(0, 5), (8, 20)], "covered", 6, 7, [0, 6])
        self.check([(0, 5), (8, 20)], "covered", 0, 20, [0, 5])

    def test_several_together(self):
        for stretches in (TOUCHING, OVERLAPPING, WITHIN):
            for a, b, answer in ((3, 12, [1]), (6, 11, [1]), (8, 10, [1]), (3, 13, [0, 12]), (2, 12, [0, 2])):
                self.check(stretches, "covered", a, b, answer)
        self.check([(0, 2), (1, 4), (4, 5), (3, 8)], "covered", 0, 8, [1])
        self.check(ALIKE, "covered", 3, 9, [1])
        self.check(ALIKE, "covered", 3, 10, [0, 9])

    def test_what_never_ends(self):
        for a, b, answer in ((3, -1, [1]), (4, -1, [1]), (LAST, -1, [1]), (3, LAST, [1]), (2, -1, [0, 2]), (2, 4, [0, 2])):
            self.check([(3, -1)], "covered", a, b, answer)
        self.check([(3, 9), (9, -1)], "covered", 3, -1, [1])
        self.check([(3, 9), (5, -1)], "covered", 3, -1, [1])
        self.check([(3, 9), (10, -1)], "covered", 3, -1, [0, 9])
        self.check([(3, 9), (10, -1)], "covered", 10, -1, [1])

    def test_up_to_the_last_moment_is_not_forever(self):
        self.check([(0, LAST)], "covered", 0, LAST, [1])
        self.check([(0, LAST)], "covered", 0, -1, [0, LAST])
        self.check([(0, LAST)], "covered", LAST, -1, [0, LAST])


class Promise13Free(OfOneKey):
    def test_a_key_that_no_entry_has(self):
        for a, n in ((0, 1), (0, LAST), (7, 3), (LAST, 1), (LAST, LAST)):
            self.check([], "free", a, n, [1, a])

    def test_ahead_of_and_behind_one_entry(self):
        for a, n, answer in ((0, 1, [1, 0]), (0, 3, [1, 0]), (0, 4, [1, 9]), (1, 2, [1, 1]), (1, 3, [1, 9]), (2, 1, [1, 2]),
                             (2, 2, [1, 9]), (3, 1, [1, 9]), (8, 1, [1, 9]), (9, 1, [1, 9]), (10, 5, [1, 10]),
                             (0, LAST, [1, 9]), (LAST, 1, [1, LAST])):
            self.check([(3, 9)], "free", a, n, answer)

    def test_a_gap_just_long_enough_and_one_too_short(self):
        for a, n, answer in ((3, 3, [1, 9]), (3, 4, [1, 20]), (9, 3, [1, 9]), (10, 2, [1, 10]), (10, 3, [1, 20]),
                             (11, 1, [1, 11]), (0, 4, [1, 20]), (12, 1, [1, 20])):
            self.check([(3, 9), (12, 20)], "free", a, n, answer)
        self.check([(0, 1), (2, 3), (5, 6), (9, 10)], "free", 0, 1, [1, 1])
        self.check([(0, 1), (2, 3), (5, 6), (9, 10)], "free", 0, 2, [1, 3])
        self.check([(0, 1), (2, 3), (5, 6), (9, 10)], "free", 0, 3, [1, 6])
        self.check([(0, 1), (2, 3), (5, 6), (9, 10)], "free", 0, 4, [1, 10])

    def test_touching_overlapping_within_and_alike(self):
        for stretches in (TOUCHING, OVERLAPPING, WITHIN):
            self.check(stretches, "free", 3, 1, [1, 12])
            self.check(stretches, "free", 8, 1, [1, 12])
            self.check(stretches, "free", 0, 3, [1, 0])
        self.check(ALIKE, "free", 1, 3, [1, 9])

    def test_behind_the_last_end(self):
        self.check([(0, LAST)], "free", 0, 1, [1, LAST])
        self.check([(0, LAST)], "free", 0, LAST, [1, LAST])
        self.check([(LAST - 1, LAST)], "free", 0, LAST - 1, [1, 0])
        self.check([(LAST - 1, LAST)], "free", 0, LAST, [1, LAST])

    def test_none_because_an_entry_never_ends(self):
        for a, n, answer in ((0, 3, [1, 0]), (0, 4, [0]), (2, 1, [1, 2]), (3, 1, [0]), (4, 1, [0]), (LAST, 1, [0])):
            self.check([(3, -1)], "free", a, n, answer)
        for a, n, answer in ((0, 3, [1, 0]), (0, 4, [0]), (5, 3, [1, 9]), (5, 4, [0]), (12, 1, [0])):
            self.check([(3, 9), (12, -1)], "free", a, n, answer)
        self.check([(3, -1), (5, 9)], "free", 3, 1, [0])
        self.check([(0, 9), (9, -1)], "free", 0, 1, [0])
        self.check([(LAST, -1)], "free", 0, LAST, [1, 0])
        self.check([(LAST, -1)], "free", 1, LAST, [0])


class Promise14Prior(OfOneKey):
    def test_none(self):
        for stretches, v in (([], 0), ([], LAST), ([(3, 9)], 8), ([(3, 9)], 0), ([(0, -1)], LAST), ([(3, 9), (2, -1)], 8)):
            self.check(stretches, "prior", v, [0])

    def test_end_just_at_and_before_v(self):
        for v in (9, 10, LAST):
            self.check([(3, 9)], "prior", v, [1, 1, KEY, 3, 9])
        self.check([(3, LAST)], "prior", LAST, [1, 1, KEY, 3, LAST])
        self.check([(3, LAST)], "prior", LAST - 1, [0])

    def test_the_greatest_end_not_the_last_in_order(self):
        for v, answer in ((6, [0]), (7, [1, 2, KEY, 5, 7]), (9, [1, 2, KEY, 5, 7]), (10, [1, 1, KEY, 0, 10]),
                          (20, [1, 1, KEY, 0, 10])):
            self.check([(0, 10), (5, 7)], "prior", v, answer)

    def test_of_several_the_last_in_order(self):
        self.check([(3, 9), (5, 9), (4, 9), (0, 8)], "prior", 20, [1, 2, KEY, 5, 9])
        self.check(ALIKE, "prior", 9, [1, 2, KEY, 3, 9])
        self.check([(3, 9), (3, 9), (2, 9), (3, 9), (3, 5)], "prior", 9, [1, 4, KEY, 3, 9])

    def test_touching_overlapping_within(self):
        for v, answer in ((11, [1, 1, KEY, 3, 9]), (12, [1, 2, KEY, 9, 12])):
            self.check(TOUCHING, "prior", v, answer)
        for v, answer in ((11, [1, 1, KEY, 3, 9]), (12, [1, 2, KEY, 5, 12])):
            self.check(OVERLAPPING, "prior", v, answer)
        for v, answer in ((11, [1, 2, KEY, 5, 7]), (12, [1, 1, KEY, 3, 12])):
            self.check(WITHIN, "prior", v, answer)

    def test_what_never_ends_is_passed_over(self):
        self.check([(3, 9), (4, -1), (5, 8)], "prior", LAST, [1, 1, KEY, 3, 9])


class Promise14Following(OfOneKey):
    def test_none(self):
        for stretches, v in (([], 0), ([], LAST), ([(3, 9)], 4), ([(3, -1)], LAST), (WITHIN, 6)):
            self.check(stretches, "following", v, [0])

    def test_first_moment_just_at_and_behind_v(self):
        for v in (0, 2, 3):
            self.check([(3, 9)], "following", v, [1, 1, KEY, 3, 9])
        self.check([(LAST, -1)], "following", LAST, [1, 1, KEY, LAST, -1])
        self.check([(0, 1)], "following", 0, [1, 1, KEY, 0, 1])

    def test_the_first_in_order(self):
        for v, answer in ((0, [1, 3, KEY, 2, 9]), (2, [1, 3, KEY, 2, 9]), (3, [1, 2, KEY, 5, 6]), (5, [1, 2, KEY, 5, 6]),
                          (6, [1, 1, KEY, 8, 9]), (8, [1, 1, KEY, 8, 9]), (9, [0])):
            self.check([(8, 9), (5, 6), (2, 9)], "following", v, answer)

    def test_of_several_with_the_same_first_moment_the_least_number(self):
        self.check([(3, 20), (3, 4), (3, -1)], "following", 3, [1, 1, KEY, 3, 20])
        self.check([(2, 9), (3, 20), (3, 4)], "following", 3, [1, 2, KEY, 3, 20])
        self.check(ALIKE, "following", 0, [1, 1, KEY, 3, 9])

    def test_touching_overlapping_within(self):
        self.check(TOUCHING, "following", 9, [1, 2, KEY, 9, 12])
        self.check(OVERLAPPING, "following", 4, [1, 2, KEY, 5, 12])
        self.check(WITHIN, "following", 4, [1, 2, KEY, 5, 7])

    def test_never_ending_alone_and_beside_others(self):
        self.check([(3, -1)], "following", 1, [1, 1, KEY, 3, -1])
        self.check([(3, -1), (5, 9)], "following", 4, [1, 2, KEY, 5, 9])
        self.check([(3, 9), (5, -1)], "following", 4, [1, 2, KEY, 5, -1])


class Promise15Busiest(unittest.TestCase):
    def check(self, stretches, a, b, answer):
        """The same whether the entries share a key or each has its own."""
        for factor in (0, 1, -1):
            calls = [("add", number, factor * number, *stretch) for number, stretch in enumerate(stretches)]
            for before in (calls, calls[::-1]):
                with self.subTest(before=before, a=a, b=b):
                    self.assertEqual(last(*before, ("busiest", a, b)), answer)

    def test_no_entry_in_the_stretch(self):
        for a, b in ((0, 1), (5, -1), (LAST, -1), (0, LAST)):
            self.check([], a, b, [0, a])
        for a, b in ((9, 20), (9, -1), (0, 3), (1, 2), (30, 40)):
            self.check([(3, 9)], a, b, [0, a])
            self.check([(3, 9), (5, 7), (50, -1)], a, 50 if b == -1 else b, [0, a])

    def test_one_entry(self):
        for a, b, answer in ((0, 4, [1, 3]), (0, -1, [1, 3]), (3, 4, [1, 3]), (8, 9, [1, 8]), (8, 20, [1, 8]), (5, 6, [1, 5])):
            self.check([(3, 9)], a, b, answer)

    def test_moments_from_b_on_do_not_count(self):
        for b, answer in ((3, [0, 0]), (4, [1, 3]), (5, [1, 3]), (6, [2, 5]), (7, [2, 5]), (8, [3, 7]), (-1, [3, 7])):
            self.check([(3, 9), (5, 9), (7, 8)], 0, b, answer)

    def test_the_first_of_several_such_moments(self):
        stretches = [(0, 2), (1, 3), (10, 20), (15, 30)]
        for a, b, answer in ((0, -1, [2, 1]), (1, -1, [2, 1]), (2, -1, [2, 15]), (2, 15, [1, 2]), (3, 15, [1, 10]),
                             (16, -1, [2, 16]), (20, -1, [1, 20])):
            self.check(stretches, a, b, answer)

    def test_at_a_itself_by_those_that_began_earlier(self):
        self.check([(0, 10), (1, 10), (5, 6)], 7, 9, [2, 7])
        self.check([(0, 10), (1, 10), (5, 6)], 6, -1, [2, 6])
        self.check([(0, 10), (1, 10), (9, 20), (15, 20)], 2, 9, [2, 2])
        self.check([(0, 10), (1, 10), (12, 20), (15, 20)], 2, -1, [2, 2])
        # More held earlier than at a.
        self.check([(0, 5), (0, 5), (0, 9), (7, 8)], 5, -1, [2, 7])
        self.check([(0, 5), (0, 5), (0, 9)], 6, -1, [1, 6])

    def test_one_ends_where_another_begins(self):
        self.check([(0, 5), (5, 9)], 0, -1, [1, 0])
        self.check([(0, 5), (5, 9)], 4, 6, [1, 4])
        self.check([(0, 5), (5, 9), (5, 6)], 0, -1, [2, 5])
        self.check([(0, 5), (0, 5), (5, 9), (5, 9)], 0, -1, [2, 0])

    def test_an_end_that_never_comes(self):
        stretches = [(3, -1), (LAST, -1), (0, 4)]
        for a, b, answer in ((0, -1, [2, 3]), (4, -1, [2, LAST]), (4, LAST, [1, 4]), (LAST, -1, [2, LAST]), (0, 3, [1, 0])):
            self.check(stretches, a, b, answer)
        self.check([(7, -1), (7, -1)], 0, -1, [2, 7])

    def test_200_entries(self):
        self.check([(number, -1) for number in range(200)], 0, -1, [200, 199])
        self.check([(number, 400 - number) for number in range(200)], 0, 100, [100, 99])


def holds(entry, moment):
    return entry[2] <= moment and (entry[3] == -1 or moment < entry[3])


class MomentByMoment(unittest.TestCase):
    """The sets of moments of small entries, written out; behind HORIZON nothing begins or ends any more."""

    HORIZON = 40

    def entries(self, source):
        many = source.randint(0, 6)
        stretches = [(source.randint(0, 11), source.choice([1, 1, 2, 2, 3, 4, 8, None])) for each in range(many)]
        return [(number, source.randint(1, 2), a, -1 if n is None else a + n) for number, (a, n) in enumerate(stretches)]

    def test_many_sets(self):
        for seed in range(1500):
            source = random.Random(seed)
            entries = self.entries(source)
            a = source.randint(0, 15)
            b = source.choice([-1, a + 1, a + 2, a + 5, a + 12])
            n = source.randint(1, 6)
            told = ask(*[("add", *entry) for entry in entries], ("held", 1), ("clash", 1), ("covered", 1, a, b),
                       ("free", 1, a, n), ("busiest", a, b))
            self.assertEqual(told[len(entries):], self.written_out(entries, a, b, n), (entries, a, b, n))

    def written_out(self, entries, a, b, n):
        moments = range(self.HORIZON)
        own = [sum(holds(entry, moment) for entry in entries if entry[1] == 1) for moment in moments]
        every = [sum(holds(entry, moment) for entry in entries) for moment in moments]
        stretch = range(a, self.HORIZON if b == -1 else b)
        bounds = [moment for moment in moments if (own[moment] > 0) != (moment > 0 and own[moment - 1] > 0)]
        double = [moment for moment in moments if own[moment] > 1]
        bare = [moment for moment in stretch if own[moment] == 0]
        room = [moment for moment in range(a, self.HORIZON - n) if not any(own[moment:moment + n])]
        most = max(every[moment] for moment in stretch)
        return [[len(bounds), *bounds], [1, double[0]] if double else [0], [0, bare[0]] if bare else [1],
                [1, room[0]] if room else [0], [most, [moment for moment in stretch if every[moment] == most][0]]]


if __name__ == "__main__":
    unittest.main()
