"""The rows that the document works out."""

import unittest

from tests.helper import (
    TILL, TILL_SETTLED, acts, ask, ask_of, beside, begin, doers, doings, holder, load, matters, moves, now, options,
    run, say, seats, settled, standing, trail,
)


class WorkedRows(unittest.TestCase):
    def test_till_as_it_stands(self):
        self.assertEqual(ask(load(TILL), settled(), begin()), [[1], [0, 3, 2, 0, 3], [-3]])

    def test_till_with_done_behind_price(self):
        given = ask(
            load(TILL_SETTLED), settled(), holder(2, 3), holder(3, 3), acts(0), acts(2), matters(1), matters(2),
            begin(), run(0, 0), now(3), trail(3), doings(1), say(0),
        )
        self.assertEqual(given, [
            [1], [1], [2], [-5], [3, 0, 1, 2], [2, 0, 2], [4, 0, 1, 2, 3], [2, 0, 3],
            [2], [2], [2], [2, 1, 2], [2, 1, 0, 3, 0, 0, 0, 1, 2, 1, 0], [2, 0, 3, 0, 2, 0],
        ])

    def test_the_whole_tale_of_the_settled_till(self):
        given = ask_of(
            TILL_SETTLED, begin(), options(), standing(), say(0), options(), say(0), standing(), seats(1), seats(2),
            say(0), options(), standing(), doings(0), doings(2), trail(0), say(0), run(0),
        )
        self.assertEqual(given, [
            [2], [2, 0, 0, 0, 1], [1, 0], [0, 1, 0, 3, 0, 0], [1, 1, 0], [1, 2, 1, 2, 1, 0], [1, 2], [1, 1],
            [2, 2, 3], [2, 0, 3, 0, 2, 0], [0], [0], [2, 0, 0, 3, 0, 0, 1, 3, 0, 2, 0],
            [2, 1, 1, 2, 1, 0, 0, 3, 0, 2, 0], [1, 0], [-8], [0],
        ])

    def test_till_that_says_bye(self):
        given = ask_of(TILL_SETTLED, begin(), say(1), options(), standing(), doings(1), doings(2), trail(3), say(0))
        self.assertEqual(given, [[2], [0, 1, 0, 3, 0, 1], [0], [0], [1, 1, 0, 3, 0, 1], [0], [1, 1], [-8]])

    def test_more_of_the_settled_till(self):
        given = ask_of(
            TILL_SETTLED, holder(0, 3), holder(1, 3), holder(2, 0), holder(2, 1), doers(0), doers(1), doers(2),
            doers(3), moves(0, 0), moves(0, 1), moves(0, 2), moves(1, 0), moves(3, 0), matters(0), matters(3),
            acts(1), acts(3), beside(0),
        )
        self.assertEqual(given, [
            [1], [1], [0], [-5], [0, 1], [1, 2], [2, 0],
            [-6], [0], [0], [-2], [1, 3, 1, 2], [-2], [4, 0, 1, 2, 3], [0],
            [3, 0, 1, 2], [0], [0],
        ])

    def test_till_without_its_needless_blanks(self):
        dense = (
            "script Till parties Buyer Shop Clerk seat Desk of Shop start Ask\tAsk=Buyer->Desk{want(text 20,num 1 9)"
            "Pass;bye()Done}Pass=Shop->Clerk{take()[Desk]Pay}Pay=Desk->Buyer{price(num 0 500)Ask}Done=end"
        )
        self.assertEqual(ask(load(dense), settled()), [[1], [0, 3, 2, 0, 3]])

    def test_till_with_remarks(self):
        text = "# a till\n" + TILL.replace("\n", " # \" ~ % = }\n") + "# no more"
        self.assertEqual(ask(load(text), settled()), [[1], [0, 3, 2, 0, 3]])


if __name__ == "__main__":
    unittest.main()
