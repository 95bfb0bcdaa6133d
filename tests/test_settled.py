"""Whether a script's seats are settled, and which fault is found first."""

import unittest

from tests.helper import TILL, TILL_SETTLED, ask_of, begin, holder, script, settled

SEATS = "seat X of A seat Y of A seat Z of B"
X, Y, Z = 4, 5, 6
ENDS = " E = end F = end G = end H = end"


class Settled(unittest.TestCase):
    def check(self, states, *fault, parties="A B C D", seats=SEATS, start="S"):
        asked = [0] + list(fault) if fault else [1]
        self.assertEqual(ask_of(script(states + ENDS, parties, seats, start), settled())[0], asked, states)


class NoFault(Settled):
    def test_small_scripts(self):
        self.check("S = end")
        self.check("S = both E F")
        self.check("S = A -> B { m() S }")
        self.check("S = A -> B { m()[X] E }")
        self.check("S = A -> Z { m()[Y, X] E }")
        self.check("S = end", parties="A", seats="")

    def test_till(self):
        self.assertEqual(ask_of(TILL, settled()), [[0, 3, 2, 0, 3]])
        self.assertEqual(ask_of(TILL_SETTLED, settled()), [[1]])

    def test_a_seat_goes_and_comes_back(self):
        self.check("S = A -> B { m()[X] T } T = X -> A { m()[X] S ; n() E }")

    def test_what_cannot_be_reached_has_no_fault(self):
        self.check("S = end T = A -> X { m()[Z] T } U = both V W V = A -> B { m() F } W = A -> B { m() G }")


class Code1(Settled):
    def test_at_the_start(self):
        self.check("S = A -> X { m() E }", 1, 0, 0, 0)
        self.check("S = Z -> B { m() E }", 1, 0, 0, 1)
        self.check("S = X -> Y { m() E }", 1, 0, 0, 0)

    def test_after_handing_on(self):
        self.check("Q = end S = A -> C { m()[X] T } T = C -> X { m() E }", 1, 2, 0, 2)
        self.check("S = A -> C { m()[X] T } T = X -> C { m() E }", 1, 1, 0, 2)
        self.check("S = A -> C { m()[X] T } T = X -> Y { m() E }")

    def test_within_a_side(self):
        self.check("S = both E T T = A -> X { m() F }", 1, 1, 0, 0)


class Code2(Settled):
    def test_what_the_sender_does_not_hold(self):
        self.check("S = A -> B { m()[Z] E }", 2, 0, 0, Z)
        self.check("S = B -> A { m()[X] E }", 2, 0, 0, X)
        self.check("S = C -> A { m() E ; n() E ; o()[Y] E }", 2, 0, 2, Y)

    def test_the_first_in_the_order_of_the_branch(self):
        self.check("S = A -> B { m()[X, Z] E }", 2, 0, 0, Z)
        self.check("S = A -> B { m()[Z, X] E }", 2, 0, 0, Z)
        self.check("S = C -> D { m()[Z, X] E }", 2, 0, 0, Z)
        self.check("S = C -> D { m()[X, Z] E }", 2, 0, 0, X)

    def test_what_was_handed_on_before(self):
        self.check("S = A -> B { m()[X] T } T = A -> C { n() E ; m()[X] F }", 2, 1, 1, X)
        self.check("S = A -> B { m()[X] T } T = B -> C { n() E ; m()[X] F }")

    def test_the_receiving_seat_itself(self):
        self.check("S = A -> Z { m()[Z] E }", 2, 0, 0, Z)

    def test_the_sending_seat_itself(self):
        self.check("S = X -> B { m()[X] T } T = X -> A { m()[X, Z] S ; n() E }", 3, 1, 0, Z)
        self.check("S = X -> B { m()[X] T } T = X -> A { m()[X] S ; n() E }")


class Code3(Settled):
    def test_back_to_the_start(self):
        self.check("S = A -> B { m()[X] T } T = B -> X { m() S }", 1, 1, 0, 1)
        self.check("S = A -> B { m()[X] T } T = X -> A { n() E ; m() S }", 3, 1, 1, X)

    def test_to_the_state_itself(self):
        self.check("S = A -> B { m()[X] S }", 3, 0, 0, X)
        self.check("S = A -> B { n() S ; m()[Y] S }", 3, 0, 1, Y)

    def test_two_branches_of_one_talk(self):
        self.check("S = A -> B { m()[X] T ; n() T } T = X -> C { m() E }", 3, 0, 1, X)
        self.check("S = A -> B { n() T ; m()[X] T } T = X -> C { m() E }", 3, 0, 1, X)
        self.check("S = A -> B { m()[X] T ; n() T } T = A -> C { m() E }")

    def test_the_least_of_the_seats(self):
        self.check("S = A -> B { m() T ; n()[Y, X] T } T = X -> C { m() U } U = Y -> C { m() E }", 3, 0, 1, X)
        self.check("S = A -> B { m() T ; n()[X, Y] T } T = C -> D { m() U } U = Y -> C { m() E }", 3, 0, 1, Y)

    def test_a_seat_that_is_only_received_at_or_only_handed(self):
        self.check("S = A -> B { m() T ; n()[X] T } T = C -> X { m() E }", 3, 0, 1, X)
        self.check("S = A -> B { m() T ; n()[X] T } T = A -> C { m()[X] E }", 3, 0, 1, X)

    def test_a_seat_that_matters_further_on(self):
        self.check("S = A -> B { m() T ; n()[X] T } T = both U F U = C -> D { m() V } V = C -> X { m() E }", 3, 0, 1, X)
        self.check("S = A -> B { m() T ; n()[X] T } T = both U F U = C -> D { m() V } V = C -> Y { m() E }")

    def test_from_a_both(self):
        self.check(
            "S = A -> B { m()[X] T ; n() D } D = both E T T = X -> C { m() F }", 3, 1, 1, X)
        self.check(
            "S = A -> B { m()[X] T ; n() D } D = both T E T = X -> C { m() F }", 3, 1, 0, X)
        self.check(
            "S = A -> B { m()[X] T ; n()[X] D } D = both T E T = X -> C { m() F }")

    def test_the_first_map_is_the_one_come_to_first(self):
        # T is met from U (one step behind the start) before it is met from V (two steps behind it).
        self.check(
            "S = A -> B { m() W ; n() U } W = A -> B { m() V } V = A -> B { m()[X] T } U = A -> B { m() T } "
            "T = X -> C { m() E }", 3, 2, 0, X)
        text = script(
            "S = A -> B { m() W ; n() U } W = A -> B { m() V } V = A -> B { m() T } U = A -> B { m()[Y] T } "
            "T = X -> C { m() E }" + ENDS, "A B C", SEATS)
        self.assertEqual(ask_of(text, settled(), holder(4, 3), holder(4, 4)), [[1], [0], [-5]])

    def test_a_seat_that_no_longer_matters_may_differ(self):
        self.check("S = A -> B { m()[X] E ; n() E }")
        self.check("S = A -> B { m()[X] T ; n() E } T = X -> A { m() E }")


class Code4(Settled):
    def test_a_worker_in_both_sides(self):
        self.check("S = both T U T = A -> B { m() E } U = C -> A { m() F }", 4, 0, 0, 0)
        self.check("S = both T U T = A -> B { m() E } U = B -> C { m() F }", 4, 0, 0, 1)
        self.check("S = both T U T = A -> B { m() E } U = C -> D { m() F }")

    def test_the_least_worker(self):
        self.check("S = both T U T = C -> B { m() E } U = B -> C { m() F }", 4, 0, 0, 1)
        self.check("S = both T U T = D -> C { m() E } U = C -> D { m() F }", 4, 0, 0, 2)

    def test_a_worker_on_an_extra_seat(self):
        self.check("S = both T U T = A -> B { m() E } U = C -> X { m() F }", 4, 0, 0, 0)
        self.check("S = both T U T = D -> C { m() E } U = X -> Z { m() F }")
        self.check(
            "S = both T U T = D -> C { m() E } U = A -> B { m()[X] V } V = A -> C { n() F }", 4, 0, 0, 2)

    def test_a_worker_that_acts_further_on(self):
        self.check(
            "S = both T U T = A -> B { m() V } V = both W E W = D -> B { m() F } U = C -> D { m() G }", 4, 0, 0, 3)

    def test_boths_in_the_order_in_which_they_are_met(self):
        inner = "N = both V W V = C -> D { m() G } W = D -> C { m() H }"
        self.check(inner + " S = both U N U = A -> B { m() F }", 4, 0, 0, 2)
        self.check(inner + " S = both U N U = A -> D { m() F }", 4, 3, 0, 3)
        self.check(inner + " S = A -> B { m() N ; n() O } O = both T U T = A -> B { m() E } U = A -> C { m() F }",
                   4, 0, 0, 2)
        self.check(inner + " S = A -> B { m() O ; n() N } O = both T U T = A -> B { m() E } U = A -> C { m() F }",
                   4, 4, 0, 0)


class FirstFault(Settled):
    def test_states_in_the_order_in_which_they_are_met(self):
        self.check("T = A -> X { m() E } U = Y -> X { m() E } S = A -> B { m() U ; n() T }", 1, 1, 0, 0)
        self.check("T = A -> X { m() E } U = Y -> X { m() E } S = A -> B { m() T ; n() U }", 1, 0, 0, 0)
        # W is farther off than U though its branch comes first.
        self.check(
            "S = A -> B { m() T ; n() U } T = A -> B { m() W } U = C -> D { m()[Z] E } W = A -> X { m() E }",
            2, 2, 0, Z)

    def test_talking_with_itself_comes_before_handing(self):
        self.check("S = A -> X { m()[Z] S }", 1, 0, 0, 0)

    def test_branch_by_branch(self):
        self.check("S = A -> B { m()[X] S ; n()[Z] S }", 3, 0, 0, X)
        self.check("S = A -> B { n()[Z] S ; m()[X] S }", 2, 0, 0, Z)
        self.check("S = A -> B { n() S ; m()[X, Z] S }", 2, 0, 1, Z)
        self.check("S = A -> B { m()[X] S ; n()[Y] S }", 3, 0, 0, X)

    def test_a_fault_behind_a_branch_waits_until_its_state_is_gone_along(self):
        self.check("S = A -> B { m() T ; n()[Z] E } T = A -> X { m() E }", 2, 0, 1, Z)

    def test_code_4_comes_last(self):
        sides = " T = A -> B { m() E } U = A -> C { m() V } "
        self.check("S = both T U" + sides + "V = A -> B { n() F }", 4, 0, 0, 0)
        self.check("S = both T U" + sides + "V = A -> X { n() F }", 1, 3, 0, 0)
        self.check("S = both T U" + sides + "V = A -> B { n()[Z] F }", 2, 3, 0, Z)
        self.check("S = both T U" + sides + "V = A -> B { n()[X] V }", 3, 3, 0, X)


class Unsettled(unittest.TestCase):
    def test_settled_may_be_asked_again(self):
        self.assertEqual(ask_of(TILL, settled(), begin(), settled()), [[0, 3, 2, 0, 3], [-3], [0, 3, 2, 0, 3]])


if __name__ == "__main__":
    unittest.main()
