"""Calls 2 to 8 with their refusals in order, and what a load leaves as it was."""

import unittest

from seatheld.desk import Desk, answer_call, common_refusal
from tests.helper import (
    HUGE, TALE_CALLS, TILL, TILL_SETTLED, acts, as_bytes, ask, ask_of, begin, beside, doers, holder, load, matters,
    moves, script, settled,
)

WRONG = (-1, -2, -HUGE, 1 - HUGE, HUGE, HUGE - 1, 100)

# States: 0 S, 1 Hand, 2 Idle, 3 Left, 4 Right, 5 End1, 6 End2, 7 Lost, 8 LostBoth, 9 LostEnd. Seats: X is 4, Y is 5.
SIDES = script(
    "S = both Hand Right Hand = A -> B { give()[Y, X] Left ; keep() End1 } Idle = A -> C { m() End1 } "
    "Left = X -> A { back()[X] End1 ; again() Left } Right = C -> D { m() Right ; n(flag) End2 } End1 = end "
    "End2 = end Lost = Y -> A { m() LostBoth } LostBoth = both Right LostEnd LostEnd = end",
    "A B C D", "seat X of A seat Y of A",
)
STATES = 10
LOST = (2, 7, 8, 9)


class Holder(unittest.TestCase):
    def test_answers(self):
        given = ask_of(
            SIDES, holder(0, 0), holder(0, 4), holder(0, 5), holder(1, 4), holder(3, 4), holder(3, 0), holder(4, 2),
            holder(4, 3),
        )
        self.assertEqual(given, [[0], [0], [0], [0], [1], [0], [2], [3]])

    def test_no_such_state_or_seat(self):
        for wrong in WRONG + (STATES,):
            self.assertEqual(ask_of(SIDES, holder(wrong, 0), holder(wrong, 4)), [[-2], [-2]], wrong)
        for wrong in WRONG + (6,):
            # The seat is looked at before it is asked whether the state can be reached.
            self.assertEqual(ask_of(SIDES, holder(0, wrong), holder(7, wrong), holder(5, wrong)), [[-2]] * 3, wrong)

    def test_not_reached_comes_before_does_not_matter(self):
        for lost in LOST:
            self.assertEqual(ask_of(SIDES, holder(lost, 0), holder(lost, 5)), [[-4], [-4]], lost)

    def test_does_not_matter(self):
        given = ask_of(SIDES, holder(3, 1), holder(3, 5), holder(1, 2), holder(4, 0), holder(5, 0), holder(6, 5))
        self.assertEqual(given, [[-5]] * 6)


class Matters(unittest.TestCase):
    def test_answers(self):
        given = ask_of(SIDES, *[matters(number) for number in range(STATES)])
        self.assertEqual(given, [
            [6, 0, 1, 2, 3, 4, 5], [4, 0, 1, 4, 5], [2, 0, 2], [2, 0, 4], [2, 2, 3], [0], [0],
            [4, 0, 2, 3, 5], [2, 2, 3], [0],
        ])

    def test_no_such_state(self):
        for wrong in WRONG + (STATES,):
            self.assertEqual(ask_of(SIDES, matters(wrong)), [[-2]], wrong)

    def test_of_a_script_that_is_not_settled(self):
        given = ask_of(TILL, matters(0), matters(2), matters(3), matters(4), matters(-1))
        self.assertEqual(given, [[4, 0, 1, 2, 3], [4, 0, 1, 2, 3], [0], [-2], [-2]])


class Acts(unittest.TestCase):
    def test_answers(self):
        given = ask_of(SIDES, acts(0), acts(1), acts(3), acts(4), acts(5), acts(6))
        self.assertEqual(given, [[4, 0, 1, 2, 3], [2, 0, 1], [2, 0, 1], [2, 2, 3], [0], [0]])

    def test_the_holder_acts_and_not_the_party_of_the_seat(self):
        self.assertEqual(ask_of(TILL_SETTLED, acts(2)), [[2, 0, 2]])

    def test_refusals(self):
        for wrong in WRONG + (STATES,):
            self.assertEqual(ask_of(SIDES, acts(wrong)), [[-2]], wrong)
        for lost in LOST:
            self.assertEqual(ask_of(SIDES, acts(lost)), [[-4]], lost)


class Doers(unittest.TestCase):
    def test_answers(self):
        self.assertEqual(ask_of(SIDES, doers(1), doers(3), doers(4)), [[0, 1], [1, 0], [2, 3]])

    def test_refusals(self):
        for wrong in WRONG + (STATES,):
            self.assertEqual(ask_of(SIDES, doers(wrong)), [[-2]], wrong)
        for lost in LOST:
            # Not reached comes before no talk: state 8 is a both, state 9 an end.
            self.assertEqual(ask_of(SIDES, doers(lost)), [[-4]], lost)
        self.assertEqual(ask_of(SIDES, doers(0), doers(5), doers(6)), [[-6]] * 3)


class Moves(unittest.TestCase):
    def test_answers(self):
        given = ask_of(SIDES, moves(1, 0), moves(1, 1), moves(3, 0), moves(3, 1), moves(4, 1))
        self.assertEqual(given, [[2, 5, 0, 1, 4, 0, 1], [0], [1, 4, 1, 0], [0], [0]])

    def test_no_such_state(self):
        for wrong in WRONG + (STATES,):
            self.assertEqual(ask_of(SIDES, moves(wrong, 0), moves(wrong, wrong)), [[-2], [-2]], wrong)

    def test_not_reached_comes_before_no_such_branch(self):
        for lost in LOST:
            self.assertEqual(ask_of(SIDES, moves(lost, 0), moves(lost, -1), moves(lost, HUGE)), [[-4]] * 3, lost)

    def test_no_such_branch(self):
        for wrong in WRONG + (2,):
            self.assertEqual(ask_of(SIDES, moves(1, wrong)), [[-2]], wrong)
        self.assertEqual(ask_of(SIDES, moves(0, 0), moves(0, 1), moves(5, 0)), [[-2]] * 3)


class Beside(unittest.TestCase):
    def test_answers(self):
        given = ask_of(SIDES, *[beside(number) for number in (0, 1, 3, 4, 5, 6)])
        self.assertEqual(given, [[0], [1, 4], [1, 4], [2, 1, 3], [1, 4], [2, 1, 3]])

    def test_only_boths_reached_from_the_start_count(self):
        text = script(
            "L = both T U S = A -> B { m() T ; n() U } T = A -> B { m() E } U = C -> B { m() F } E = end F = end")
        self.assertEqual(ask_of(text, beside(1), beside(2), beside(3), beside(4)), [[0]] * 4)
        self.assertEqual(ask_of(text, beside(0)), [[-4]])

    def test_boths_within_boths(self):
        text = script(
            "S = both I V I = both T U V = E1 -> F1 { m() K } T = A -> B { m() G } U = C -> D { m() H } "
            "G = end H = end K = end", "A B C D E1 F1")
        given = ask_of(text, *[beside(number) for number in range(8)])
        self.assertEqual(given, [
            [0], [1, 2], [2, 3, 4], [2, 2, 4], [2, 2, 3], [2, 2, 4], [2, 2, 3], [2, 3, 4],
        ])

    def test_several_boths_count_together(self):
        text = script(
            "S = A -> B { m() M ; n() N } M = both T U N = both V T T = A -> B { m() E } U = C -> D { m() F } "
            "V = D -> C { m() G } E = end F = end G = end", "A B C D")
        self.assertEqual(ask_of(text, beside(3), beside(4), beside(5)), [[2, 4, 5], [1, 3], [1, 3]])

    def test_refusals(self):
        for wrong in WRONG + (STATES,):
            self.assertEqual(ask_of(SIDES, beside(wrong)), [[-2]], wrong)
        for lost in LOST:
            self.assertEqual(ask_of(SIDES, beside(lost)), [[-4]], lost)


class Begin(unittest.TestCase):
    def test_the_number_of_options(self):
        self.assertEqual(ask_of(TILL_SETTLED, begin()), [[2]])
        self.assertEqual(ask_of(SIDES, begin()), [[4]])
        self.assertEqual(ask_of(script("S = end"), begin()), [[0]])
        self.assertEqual(ask_of(script("S = both E F E = end F = end"), begin()), [[0]])

    def test_it_begins_anew(self):
        self.assertEqual(ask_of(SIDES, begin(), begin(), begin()), [[4], [4], [4]])

    def test_what_stands_there_in_order(self):
        text = script(
            "V = E1 -> F1 { m() K ; n() K } S = both I V U = C -> D { m() H } I = both U T T = A -> B { m() G } "
            "G = end H = end K = end", "A B C D E1 F1")
        desk = Desk()
        answer_call(desk, 0, as_bytes(text))
        self.assertEqual(answer_call(desk, 8, []), [4])
        self.assertEqual(desk.tale.standing, [2, 4, 0])
        self.assertEqual(desk.tale.holders, [0, 1, 2, 3, 4, 5])

    def test_many_boths_within_one_another(self):
        for chain, asked in ((("N%d", "T%d"), [0]), (("T%d", "N%d"), [0])):
            states = ""
            for number in range(31):
                first, second = [side % (number + (side[0] == "N")) for side in chain]
                states += "N%d = both %s %s T%d = end " % (number, first, second, number)
            text = script(states + "N31 = end", start="N0")
            self.assertEqual(ask_of(text, begin()), [asked])


EVERY_CALL = (
    settled(), holder(0, 0), matters(0), acts(0), doers(0), moves(0, 0), beside(0), begin(),
) + TALE_CALLS
WRONG_CALLS = (
    holder(-1, -1), matters(-1), acts(HUGE), doers(-HUGE), moves(-1, HUGE), beside(HUGE),
)


class RefusalsOfEveryCall(unittest.TestCase):
    def test_no_script(self):
        for call in EVERY_CALL + WRONG_CALLS:
            self.assertEqual(ask(call), [[-1]], call)
            self.assertEqual(ask(load("no script"), call), [[0, 3, 0], [-1]], call)
        self.assertEqual(ask(*EVERY_CALL), [[-1]] * len(EVERY_CALL))

    def test_not_settled(self):
        for call in EVERY_CALL + WRONG_CALLS:
            if call[0] not in (1, 3):
                self.assertEqual(ask_of(TILL, call), [[-3]], call)
        self.assertEqual(ask_of(TILL, settled(), matters(-1), matters(0)), [[0, 3, 2, 0, 3], [-2], [4, 0, 1, 2, 3]])

    def test_no_tale(self):
        for call in TALE_CALLS:
            self.assertEqual(ask_of(TILL_SETTLED, call), [[-7]], call)
        self.assertEqual(ask_of(TILL_SETTLED, *TALE_CALLS), [[-7]] * len(TALE_CALLS))

    def test_with_a_tale_no_call_is_refused_before_its_own_refusals(self):
        desk = Desk()
        answer_call(desk, 0, as_bytes(TILL_SETTLED))
        answer_call(desk, 8, [])
        answer_call(desk, 0, as_bytes("no script"))
        self.assertEqual([common_refusal(desk, call) for call in range(17)], [0] * 17)

    def test_a_new_script_has_no_tale(self):
        for call in TALE_CALLS:
            self.assertEqual(ask_of(TILL_SETTLED, begin(), load(TILL_SETTLED), call), [[2], [1], [-7]], call)
            self.assertEqual(
                ask_of(TILL_SETTLED, begin(), load(TILL), call, load(TILL_SETTLED), call),
                [[2], [1], [-3], [1], [-7]], call)


class AsItWas(unittest.TestCase):
    FAULTY = ("", "@", "script", " " * 4097, TILL + "Done = end", TILL.replace("Done = end", "Done = both Done Done"))

    def test_a_load_that_answers_0_leaves_the_script(self):
        asked = (settled(), holder(2, 3), matters(1), acts(2), doers(1), moves(1, 0), beside(0))
        before = ask_of(TILL_SETTLED, *asked)
        for text in self.FAULTY:
            given = ask_of(TILL_SETTLED, load(text), *asked)
            self.assertEqual(given[0][0], 0, text)
            self.assertEqual(given[1:], before, text)
            self.assertEqual(ask_of(TILL, load(text), settled(), begin())[1:], [[0, 3, 2, 0, 3], [-3]], text)

    def test_a_load_that_answers_0_leaves_the_tale(self):
        desk = Desk()
        answer_call(desk, 0, as_bytes(SIDES))
        answer_call(desk, 8, [])
        study, tale = desk.study, desk.tale
        for text in self.FAULTY:
            self.assertEqual(answer_call(desk, 0, as_bytes(text))[0], 0, text)
            self.assertTrue(desk.study is study and desk.tale is tale, text)
            self.assertEqual((tale.standing, tale.holders), ([1, 4], [0, 1, 2, 3, 0, 0]))

    def test_a_load_that_answers_0_makes_no_tale(self):
        for text in self.FAULTY:
            self.assertEqual(ask_of(TILL_SETTLED, load(text), [16])[1], [-7], text)

    def test_a_refusal_leaves_the_tale(self):
        desk = Desk()
        answer_call(desk, 0, as_bytes(SIDES))
        answer_call(desk, 8, [])
        tale = desk.tale
        for call in WRONG_CALLS + (holder(7, 0), holder(5, 0), doers(0), moves(1, 9)):
            self.assertLess(answer_call(desk, call[0], call[1:])[0], 0, call)
            self.assertTrue(desk.tale is tale, call)
            self.assertEqual((tale.standing, tale.holders), ([1, 4], [0, 1, 2, 3, 0, 0]))

    def test_answers_do_not_wear_off(self):
        asked = [holder(2, 3), matters(1), acts(0), doers(1), moves(1, 0), beside(0), settled(), begin()]
        given = ask_of(TILL_SETTLED, *(asked * 3))
        self.assertEqual(given[:8] * 3, given)

    def test_a_new_script_takes_the_old_ones_place(self):
        given = ask(load(SIDES), acts(0), load(TILL_SETTLED), acts(0), load(TILL), settled(), load(SIDES), beside(4))
        self.assertEqual(given, [
            [1], [4, 0, 1, 2, 3], [1], [3, 0, 1, 2], [1], [0, 3, 2, 0, 3], [1], [2, 1, 3],
        ])


if __name__ == "__main__":
    unittest.main()
