"""How calls are handed in and answers given back."""

import unittest

from seatheld.desk import answers
from tests.helper import TALE_CALLS, TILL, TILL_SETTLED, acts, begin, holder, load, matters, moves, settled


def line(*calls):
    return [number for call in calls for number in call]


WORKED = line(
    load(TILL_SETTLED), settled(), holder(2, 3), holder(3, 3), acts(0), acts(2), matters(1), matters(2), begin(),
)
WORKED_ANSWERS = [
    1, 1, 1, 1, 1, 2, 1, -5, 4, 3, 0, 1, 2, 3, 2, 0, 2, 5, 4, 0, 1, 2, 3, 3, 2, 0, 3, 1, 2,
]


class Interface(unittest.TestCase):
    def test_answers_stand_behind_their_lengths(self):
        self.assertEqual(answers(WORKED), WORKED_ANSWERS)
        self.assertEqual(answers(line(load(TILL), settled(), begin())), [1, 1, 5, 0, 3, 2, 0, 3, 1, -3])
        self.assertEqual(answers(line(load("@"))), [3, 0, 2, 0])
        self.assertEqual(answers(line(load(""))), [3, 0, 3, 0])
        self.assertEqual(answers([1]), [1, -1])

    def test_what_is_handed_in_is_not_changed(self):
        for calls in (WORKED, line(load(TILL), settled()), line(load("@"), *TALE_CALLS)):
            kept = list(calls)
            answers(calls)
            self.assertEqual(calls, kept)

    def test_what_is_given_back_is_a_new_list_of_whole_numbers(self):
        given = answers(WORKED)
        self.assertEqual(type(given), list)
        self.assertEqual({type(number) for number in given}, {int})
        given.clear()
        self.assertEqual(answers(WORKED), WORKED_ANSWERS)

    def test_nothing_is_kept_from_one_time_to_the_next(self):
        self.assertEqual(answers(WORKED), answers(WORKED))
        self.assertEqual(answers([1]), [1, -1])
        self.assertEqual(answers(line(load(TILL_SETTLED), [9])), [1, 1, 1, -7])

    def test_rows_are_stepped_over(self):
        calls = line([11, 4, 0, 1, 2, 3], settled(), [11, 0], settled(), [11, 2000] + [8] * 2000, load(TILL), settled())
        self.assertEqual(answers(calls), [1, -1] * 5 + [1, 1, 5, 0, 3, 2, 0, 3])

    def test_every_call_is_stepped_over_by_its_own_width(self):
        for call in TALE_CALLS:
            self.assertEqual(answers(line(call, load(TILL_SETTLED), call, begin())), [1, -1, 1, 1, 1, -7, 1, 2], call)

    def test_400_calls(self):
        calls = line(load(TILL_SETTLED), *[moves(1, 0)] * 399)
        self.assertEqual(answers(calls), [1, 1] + [4, 1, 3, 1, 2] * 399)

    def test_a_text_of_8192_bytes(self):
        calls = line(load("#" * 8192), load(TILL), load("\n" * 8192))
        self.assertEqual(answers(calls), [3, 0, 1, 4096, 1, 1, 3, 0, 1, 4096])

    def test_17000_numbers_of_texts(self):
        texts = [load(TILL)] * (17000 // len(load(TILL)))
        self.assertEqual(answers(line(*texts)), [1, 1] * len(texts))


if __name__ == "__main__":
    unittest.main()
