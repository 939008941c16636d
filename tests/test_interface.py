"""The interface: how calls and answers are laid out, and that nothing is changed or kept."""

import unittest

from helper import ALL, NUMBERS, ask, expected, laid_out, split
from stretchindex.index import answers

EXAMPLE = [0, 1, 5, 3, 9, 0, 2, 5, 7, -1, 0, 3, 2, 0, 4, 23, 9, 8, 9, 3, 10, 2, 2, 0, -1, 16, 5, 18, 5, 0, 3, 18, 5, 0, 4,
           4, 5, 5, 8, 7, 1, 7, 2, 7, 3]


def many_calls():
    """400 calls: 200 that add, then all the others by turns, and two that add again what is gone."""
    calls = [("add", (number * 7919) % 1000000, number % 10, number, number + 50) for number in range(200)]
    for turn in range(8):
        number = ((turn + 90) * 7919) % 1000000
        calls += [("get", number), ("place", number), ("path", number), ("move", number, turn, -1),
                  ("rekey", number, -turn), ("count",), ("stab", turn * 20), ("find", 2, 7, turn, turn + 60),
                  ("inside", 0, 9, turn, -1), ("around", 0, 9, 80, 90), ("shape",), ("nth", turn * 20), ("held", turn),
                  ("clash", turn), ("covered", turn, 90, 120), ("free", turn, 90, 5), ("prior", turn, 160),
                  ("following", turn, 100), ("busiest", 10 * turn, -1), ("drop", number), ("shift", 3, 4, 2),
                  ("close", turn, turn, 190), ("purge", 50 + turn), ("add", number, turn, 170, 180),
                  ("add", turn, -5, turn, -1)]
    return calls


class Untouchable(list):
    """A list that can only be read."""

    def refuse(self, *told):
        raise AssertionError("the list that was handed in is changed")

    append = extend = insert = pop = remove = reverse = sort = clear = refuse
    __setitem__ = __delitem__ = __iadd__ = __imul__ = refuse


class Layout(unittest.TestCase):
    def test_the_documents_example(self):
        self.assertEqual(answers(EXAMPLE),
                         [1, 1, 1, 2, 1, 3, 7, 3, 3, 0, 1, 2, 2, 1, 4, 2, 3, 1, 2, 4, 2, 3, 3, 1, 3, 1, 3, 3, 2, 1, 7,
                          2, 1, 0, 1, 0, 2, 2, 0, 4, 1, 5, 3, 8, 4, 2, 5, 7, 8, 4, 3, 2, 0, 4])

    def test_each_call_by_its_number(self):
        calls = [0, 6, 4, 1, 9, 2, 6, 2, 8, 3, 6, 5, 6, 5, 5, 10, 7, 6, 8, 9, 12, 10, 5, 5, 0, -1, 11, 5, 5, 0, 30,
                 12, 5, 5, 13, 14, 23, 4, 5, 5, 15, 5, 15, 0, 6, 4, 1, 9, 1, 6]
        self.assertEqual(split(answers(calls)),
                         [[1], [1, 9], [0, 4], [1], [6, 5, 12, 18], [1], [1, 1, 6], [1, 1, 6], [1, 1, 6], [1, 1, 6],
                          [1, 6, 0], [1, 0], [1], [1], [0]])
        calls = [0, 6, 4, 1, 9, 0, 7, 4, 5, -1, 13, 7, 14, 0, 15, 4, 16, 4, 17, 4, 1, -1, 18, 4, 0, 1, 19, 4, 9, 20, 4, 2,
                 21, 0, 6, 22, 6]
        self.assertEqual(split(answers(calls)),
                         [[1], [2], [1], [6, 4, 1, 9], [1, 1], [1, 5], [1], [1, 0], [1, 6, 4, 1, 9], [1, 7, 4, 5, -1],
                          [2, 5], [2, 7, 6]])

    def test_a_refusal_is_one_number_alone(self):
        self.assertEqual(answers([1, 5, 7, 5, 9, -1, 10, 0, 0, 5, 5]), [1, -3, 1, -3, 1, -1, 1, -2])
        self.assertEqual(answers([13, 5, 14, 0, 22, 5, 17, 0, 5, 5, 18, 0, 5, 0, 21, 5, 4, 8]),
                         [1, -3, 1, -3, 1, -3, 1, -2, 1, -1, 1, -2, 1, 0])

    def test_only_one_call(self):
        self.assertEqual(answers([8]), [1, 0])
        self.assertEqual(answers([23]), [1, 0])
        self.assertEqual(answers([15, 3]), [1, 0])
        self.assertEqual(answers([21, 4, -1]), [2, 0, 4])

    def test_the_answers_are_a_list_of_whole_numbers(self):
        told = answers(EXAMPLE)
        self.assertIs(type(told), list)
        self.assertEqual(set(type(number) for number in told), {int})

    def test_numbers_are_not_taken_for_calls(self):
        # Arguments that look like numbers of calls, and a refused call's arguments, are passed over as such.
        self.assertEqual(answers([0, 8, 8, 8, 23, 8, 0, -8, 8, 8, 8, 8, 7, 8]), [1, 1, 1, 1, 1, -1, 1, 1, 4, 8, 8, 8, 23])


class NothingIsChangedOrKept(unittest.TestCase):
    def test_the_list_is_as_it_was(self):
        for calls in (EXAMPLE, laid_out(many_calls()), [1, 5]):
            handed_in = list(calls)
            answers(handed_in)
            self.assertEqual(handed_in, calls)

    def test_the_list_is_not_changed_for_a_while_either(self):
        for calls in (EXAMPLE, laid_out(many_calls())):
            self.assertEqual(answers(Untouchable(calls)), answers(calls))

    def test_twice_in_a_row(self):
        for calls in (EXAMPLE, laid_out(many_calls())):
            first = answers(calls)
            copy = list(first)
            self.assertEqual(answers(calls), copy)
            self.assertEqual(first, copy)

    def test_a_new_list_begins_without_entries(self):
        answers([0, 1, 5, 3, 9])
        self.assertEqual(answers([8, 7, 1, 0, 1, 5, 3, 9]), [1, 0, 1, -3, 1, 1])

    def test_what_is_given_back_may_be_changed(self):
        first = answers(EXAMPLE)
        copy = list(first)
        first.clear()
        self.assertEqual(answers(EXAMPLE), copy)


class Long(unittest.TestCase):
    def test_400_calls_with_all_24_among_them(self):
        calls = many_calls()
        self.assertEqual(len(calls), 400)
        told = ask(*calls)
        self.assertEqual(told, expected(calls))
        taken = {call[0] for call, answer in zip(calls, told) if answer[0] >= 0}
        self.assertEqual(taken, set(NUMBERS))
        self.assertEqual(len(taken), 24)

    def test_400_calls_that_answer_much(self):
        adds = [("add", number, number, 0, -1) for number in range(200)]
        told = ask(*adds, *[("find", *ALL, 0, -1)] * 200)
        self.assertEqual(told[200:], [[200, 200, *range(200)]] * 200)


if __name__ == "__main__":
    unittest.main()
