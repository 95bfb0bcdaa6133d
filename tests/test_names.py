"""Codes 5, 6, 8 and 9: the names, in the order of the text."""

import unittest

from tests.helper import FaultCase, loaded, script

SEATS = "seat X of A seat Y of B"


class Code5(FaultCase):
    def test_parties(self):
        self.check(5, "script T parties A ^A start S S = end")
        self.check(5, "script T parties A B C ^B A start S S = end")

    def test_extra_seats(self):
        self.check(5, "script T parties A B seat ^A of B start S S = end")
        self.check(5, "script T parties A B seat X of B seat ^X of A start S S = end")

    def test_states(self):
        self.check(5, script("S = end ^S = end"))
        self.check(5, script("S = end E = end ^S = A -> B { m() E }"))

    def test_labels(self):
        self.check(5, script("S = A -> B { m() E ; ^m() E } E = end"))
        self.check(5, script("S = A -> B { m() E ; n() E ; ^m(flag) S } E = end"))

    def test_handed_seats(self):
        self.check(5, script("S = A -> B { m()[X, ^X] E } E = end", seats=SEATS))

    def test_the_same_name_for_unlike_things(self):
        text = (
            "script A parties A B seat S of A start A A = A -> B { A()[S] S ; S()[S] S } B = B -> A { A() S } S = end"
        )
        self.assertEqual(loaded(text), [1])

    def test_the_same_seat_in_other_brackets(self):
        self.assertEqual(loaded(script("S = A -> B { m()[X] E ; n()[X, Y] E } E = end", seats=SEATS)), [1])


class Code6(FaultCase):
    def test_holders(self):
        self.check(6, "script T parties A B seat X of ^C start S S = end")
        self.check(6, "script T parties A B seat X of ^X start S S = end")
        self.check(6, "script T parties A B seat X of A seat Y of ^X start S S = end")
        self.check(6, "script T parties A B seat X of ^T start S S = end")

    def test_start(self):
        self.check(6, script("S = end", start="^Q"))
        self.check(6, script("S = end", start="^s"))
        self.check(6, script("S = end", start="^A"))

    def test_sides(self):
        self.check(6, script("S = both ^Q E E = end"))
        self.check(6, script("S = both E ^Q E = end"))
        self.check(6, script("S = both ^Q R E = end"))
        self.check(6, script("S = both ^A E E = end"))

    def test_seats_of_a_talk(self):
        self.check(6, script("S = ^Q -> A { m() E } E = end"))
        self.check(6, script("S = A -> ^Q { m() E } E = end"))
        self.check(6, script("S = ^S -> A { m() E } E = end"))
        self.check(6, script("S = ^Q -> R { m() E } E = end"))
        self.check(6, script("S = ^Q -> Q { m() E } E = end"))

    def test_handed_seats(self):
        self.check(6, script("S = A -> B { m()[^Q] E } E = end", seats=SEATS))
        self.check(6, script("S = A -> B { m()[X, ^Q] E } E = end", seats=SEATS))
        self.check(6, script("S = A -> B { m()[^E] E } E = end", seats=SEATS))

    def test_states_behind(self):
        self.check(6, script("S = A -> B { m() ^Q } E = end"))
        self.check(6, script("S = A -> B { m() E ; n() ^A } E = end"))

    def test_names_may_be_used_before_they_are_told(self):
        self.assertEqual(loaded(script("E = end F = A -> B { m() S } S = A -> B { m() E } ")), [1])


class Code8(FaultCase):
    def test_a_seat_talks_with_itself(self):
        self.check(8, script("S = A -> ^A { m() E } E = end"))
        self.check(8, script("S = X -> ^X { m() E } E = end", seats=SEATS))

    def test_two_seats_of_one_worker_are_no_fault_of_the_text(self):
        self.assertEqual(loaded(script("S = A -> X { m() E } E = end", seats=SEATS)), [1])


class Code9(FaultCase):
    def test_a_party_hands_its_own_seat(self):
        self.check(9, script("S = A -> B { m()[^A] E } E = end", seats=SEATS))
        self.check(9, script("S = A -> B { m()[X, ^C] E } E = end", seats=SEATS))
        self.check(9, script("S = A -> B { m()[^A, A] E } E = end", seats=SEATS))


class Order(FaultCase):
    def test_from_party_to_state(self):
        self.check(5, "script T parties A ^A seat A of Q start Q S = end S = end")
        self.check(5, "script T parties A seat ^A of Q start Q S = end S = end")
        self.check(6, "script T parties A seat X of ^Q seat X of Q start Q S = end S = end")
        self.check(5, "script T parties A seat X of A seat ^X of Q start Q S = end S = end")
        self.check(6, "script T parties A seat X of A start ^Q S = end S = end")
        self.check(5, "script T parties A seat X of A start S S = end ^S = both Q Q")

    def test_state_by_state(self):
        self.check(6, script("S = both ^Q E E = A -> A { m() E }"))
        self.check(8, script("S = A -> ^A { m() E } E = both Q Q"))
        self.check(5, script("S = end ^S = A -> A { m()[A] E ; m() Q }"))

    def test_within_a_talk(self):
        self.check(6, script("S = ^Q -> Q { m() E ; m()[A] Q } E = end"))
        self.check(6, script("S = A -> ^Q { m() E ; m()[A] Q } E = end"))
        self.check(8, script("S = A -> ^A { m() E ; m()[A] Q } E = end"))

    def test_within_a_branch(self):
        self.check(5, script("S = A -> B { m() E ; ^m()[Q, A] Q } E = end", seats=SEATS))
        self.check(6, script("S = A -> B { m() E ; n()[^Q, A] Q } E = end", seats=SEATS))
        self.check(9, script("S = A -> B { m() E ; n()[^A, Q] Q } E = end", seats=SEATS))
        self.check(9, script("S = A -> B { m() E ; n()[X, ^A] Q } E = end", seats=SEATS))
        self.check(5, script("S = A -> B { m() E ; n()[X, ^X] Q } E = end", seats=SEATS))
        self.check(6, script("S = A -> B { m() E ; n()[X] ^Q } E = end", seats=SEATS))

    def test_branch_by_branch(self):
        self.check(6, script("S = A -> B { m() ^Q ; m() E } E = end"))
        self.check(9, script("S = A -> B { m()[^A] E ; m()[X, X] Q } E = end", seats=SEATS))

    def test_names_come_before_shared_sides(self):
        self.check(6, script("S = both E E E = end F = both E ^Q"))


if __name__ == "__main__":
    unittest.main()
