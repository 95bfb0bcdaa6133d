"""How calls are handed in and answers given back."""

import unittest

from seatheld.desk import answers
from tests.helper import (
    HUGE, TALE_CALLS, TILL, TILL_SETTLED, LongCase, acts, begin, doings, holder, load, matters, moves, now, options,
    run, say, script, seats, settled, standing, trail,
)


def line(*calls):
    return [number for call in calls for number in call]


WORKED = line(
    load(TILL_SETTLED), settled(), holder(2, 3), holder(3, 3), acts(0), acts(2), matters(1), matters(2), begin(),
    run(0, 0), now(3), trail(3), doings(1), say(0),
)
WORKED_ANSWERS = [
    1, 1, 1, 1, 1, 2, 1, -5, 4, 3, 0, 1, 2, 3, 2, 0, 2, 5, 4, 0, 1, 2, 3, 3, 2, 0, 3, 1, 2,
    1, 2, 1, 2, 3, 2, 1, 2, 11, 2, 1, 0, 3, 0, 0, 0, 1, 2, 1, 0, 6, 2, 0, 3, 0, 2, 0,
]
TALE = line(
    load(TILL_SETTLED), begin(), options(), standing(), say(0), run(0), now(3), seats(2), doings(1), trail(3),
    say(HUGE), now(-HUGE), run(-HUGE, HUGE, 0), standing(), begin(), run(1, 2, 3), load("@"), doings(0), load(TILL), standing(),
)
# Two talks abreast that never end, so that every worker has many doings.
LASTING = script(
    "S = both T U T = A -> B { m()[X] V } V = X -> A { m()[X] T } U = C -> D { m() U ; n() U }",
    "A B C D", "seat X of A",
)


class Interface(LongCase):
    def test_answers_stand_behind_their_lengths(self):
        self.assertEqual(answers(WORKED), WORKED_ANSWERS)
        self.assertEqual(answers(line(load(TILL), settled(), begin())), [1, 1, 5, 0, 3, 2, 0, 3, 1, -3])
        self.assertEqual(answers(line(load("@"))), [3, 0, 2, 0])
        self.assertEqual(answers(line(load(""))), [3, 0, 3, 0])
        self.assertEqual(answers([1]), [1, -1])

    def test_what_is_handed_in_is_not_changed(self):
        for calls in (WORKED, TALE, line(load(TILL), settled()), line(load("@"), *TALE_CALLS)):
            kept = list(calls)
            answers(calls)
            self.assertEqual(calls, kept)

    def test_what_is_given_back_is_a_new_list_of_whole_numbers(self):
        given = answers(WORKED)
        self.assertEqual(type(given), list)
        self.assertEqual({type(number) for number in given}, {int})
        given.clear()
        self.assertEqual(answers(WORKED), WORKED_ANSWERS)

    def test_nothing_is_kept_from_one_time_to_the_next(self):
        for calls in (WORKED, TALE):
            self.assertEqual(answers(calls), answers(calls))
            self.assertEqual(answers(list(calls)), answers(calls))
        self.assertEqual(answers([9]), [1, -1])
        self.assertEqual(answers([1]), [1, -1])
        self.assertEqual(answers(line(load(TILL_SETTLED), [9])), [1, 1, 1, -7])

    def test_rows_are_stepped_over(self):
        calls = line([11, 4, 0, 1, 2, 3], settled(), [11, 0], settled(), [11, 2000] + [8] * 2000, load(TILL), settled())
        self.assertEqual(answers(calls), [1, -1] * 5 + [1, 1, 5, 0, 3, 2, 0, 3])

    def test_every_call_is_stepped_over_by_its_own_width(self):
        for call in TALE_CALLS:
            self.assertEqual(answers(line(call, load(TILL_SETTLED), call, begin())), [1, -1, 1, 1, 1, -7, 1, 2], call)

    def test_every_call_on_a_tale_is_stepped_over_by_its_own_width(self):
        for call in TALE_CALLS:
            given = answers(line(load(TILL_SETTLED), begin(), call, settled(), begin()))
            self.assertEqual(given[:4], [1, 1, 1, 2], call)
            self.assertEqual(given[4 + 1 + given[4]:], [1, 1, 1, 2], call)

    def test_a_row_of_2000_numbers(self):
        # The last of the three options is the second branch of U, every time.
        calls = line(load(LASTING), begin(), run(*[-1] * 2000), standing(), run(*[HUGE, -HUGE] * 1000), settled())
        self.assertEqual(answers(calls), [1, 1, 1, 3, 1, 1000, 3, 2, 1, 3, 1, 0, 1, 1])

    def test_17000_numbers_of_runs(self):
        head = line(load(LASTING))
        rounds = line(begin(), run(*[0] * 2000), begin(), run(*[2] * 1500))
        calls = head + rounds * ((17000 - len(head)) // len(rounds))
        self.assertLessEqual(len(calls), 17000)
        count = (len(calls) - len(head)) // len(rounds)
        self.assertEqual(answers(calls), [1, 1] + [1, 3, 1, 1000] * 2 * count)

    def test_answers_of_more_than_a_million_numbers(self):
        calls = line(load(LASTING), begin(), run(*[2] * 1000), *[doings(2)] * 397)
        given = answers(calls)
        self.assertEqual(len(given), 6 + 397 * 5002)
        self.assertEqual(given[:6], [1, 1, 1, 3, 1, 1000])
        self.check_long(given[6:], ([5001, 1000] + [0, 2, 3, 3, 1] * 1000) * 397)

    def test_400_calls_on_a_tale(self):
        calls = line(load(LASTING), begin(), *[say(0), trail(4)] * 199)
        given = answers(calls)
        at, trails = 4, []
        for number in range(199):
            self.assertEqual(given[at], 6)
            length = given[at + 7]
            trails.append(given[at + 8:at + 8 + length])
            at += 8 + length
        self.assertEqual(at, len(given))
        self.check_long(trails, [[n + 2] + [(k % 2) for k in range(n + 2)] for n in range(199)])

    def test_400_calls(self):
        calls = line(load(TILL_SETTLED), *[moves(1, 0)] * 399)
        self.check_long(answers(calls), [1, 1] + [4, 1, 3, 1, 2] * 399)

    def test_a_text_of_8192_bytes(self):
        calls = line(load("#" * 8192), load(TILL), load("\n" * 8192))
        self.assertEqual(answers(calls), [3, 0, 1, 4096, 1, 1, 3, 0, 1, 4096])

    def test_17000_numbers_of_texts(self):
        texts = [load(TILL)] * (17000 // len(load(TILL)))
        self.assertEqual(answers(line(*texts)), [1, 1] * len(texts))


if __name__ == "__main__":
    unittest.main()
