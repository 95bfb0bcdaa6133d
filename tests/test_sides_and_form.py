"""Codes 10 and 11: sides that share a state, and the one form's size."""

import unittest

from seatheld.grammar import read_draft
from seatheld.oneform import one_form
from seatheld.tokens import tokens_of
from tests.helper import TILL, TILL_SETTLED, FaultCase, as_bytes, loaded, script

ENDS = " E = end F = end G = end"


class Code11(FaultCase):
    def test_sides_that_are_one_state(self):
        self.check(11, script("^S = both E E" + ENDS))

    def test_a_side_that_is_the_both_itself(self):
        self.check(11, script("^S = both S E" + ENDS))
        self.check(11, script("^S = both E S" + ENDS))
        self.check(11, script("^S = both S S" + ENDS))

    def test_a_side_reached_from_the_other(self):
        self.check(11, script("^S = both M E M = A -> B { m() E }" + ENDS))
        self.check(11, script("^S = both E M M = A -> B { m() F ; n() E }" + ENDS))

    def test_a_shared_end(self):
        self.check(11, script("^S = both M N M = A -> B { m() E } N = B -> A { m() E }" + ENDS))
        self.check(11, script("^S = both M N M = A -> B { m() M ; n() F } N = B -> A { m() L } L = both G F" + ENDS))

    def test_a_both_reached_again_from_itself(self):
        self.check(11, script("^S = both M E M = A -> B { m() S ; n() F }" + ENDS))

    def test_a_both_that_is_never_reached(self):
        self.check(11, script("S = end ^D = both E E" + ENDS))

    def test_the_first_in_the_order_of_the_text(self):
        self.check(11, script("^D = both E E S = both F F" + ENDS))
        self.check(11, script("D = both E F ^S = both F F L = both G G" + ENDS))
        self.check(11, script("O = both E D ^D = both F F" + ENDS, start="O"))

    def test_sides_apart(self):
        self.assertEqual(loaded(script("S = both E F" + ENDS)), [1])
        self.assertEqual(loaded(script("S = both L E L = both F G" + ENDS)), [1])
        self.assertEqual(
            loaded(script("S = both M N M = A -> B { m() M ; n() F } N = B -> A { m() N ; n() G }" + ENDS)), [1])
        # Two boths may share states, and so may a both and a talk beside none.
        self.assertEqual(loaded(script("S = A -> B { m() L ; n() K } L = both E F K = both F E" + ENDS)), [1])


def long_form(length):
    """A one form of just so many bytes, mostly of branches that are written with many blanks."""
    form = "script T\nparties A B\nstart E\nE = end\n"
    branches = " ; ".join("%s() E" % label for label in "abcdefgh")
    number = 0
    while length - len(form) > 100:
        number += 1
        form += "S%d = A -> B { %s }\n" % (number, branches)
    while len(form) < length:
        # A line "name = end" has 7 bytes more than its name, of 16 bytes at most; the last two share what is left.
        number += 1
        missing = length - len(form)
        width = missing - 7 if missing <= 23 else min(16, missing - 7 - 11)
        form += ("P%d" % number).ljust(width, "x") + " = end\n"
    return form


def dense(form):
    """The same script with the blanks left out that no two names need."""
    text = form.replace("\n", " ")
    for sign in ("->", "=", "{", "}", "(", ")", "[", "]", ",", ";"):
        text = text.replace(" " + sign, sign).replace(sign + " ", sign)
    return text.strip()


class Code10(unittest.TestCase):
    def test_the_forms_of_this_test(self):
        for length in (4095, 4096, 4097, 4300):
            form = long_form(length)
            self.assertEqual(len(form), length)
            self.assertLess(len(dense(form)), 4000)
            self.assertEqual(one_form(read_draft(tokens_of(as_bytes(form)))), form)

    def test_4096_bytes_are_allowed(self):
        self.assertEqual(loaded(long_form(4096)), [1])
        self.assertEqual(loaded(dense(long_form(4095))), [1])
        self.assertEqual(loaded(dense(long_form(4096))), [1])

    def test_one_more_is_code_10(self):
        self.assertEqual(loaded(dense(long_form(4097))), [0, 10, 0])
        self.assertEqual(loaded("\n" + dense(long_form(4097))), [0, 10, 0])
        self.assertEqual(loaded(dense(long_form(4300))), [0, 10, 0])

    def test_the_form_itself_one_byte_too_long(self):
        self.assertEqual(loaded(long_form(4097)), [0, 1, 4096])

    def test_every_other_fault_comes_first(self):
        text = dense(long_form(4300))
        self.assertEqual(loaded(text + " Z=both Q E"), [0, 6, len(text) + 8])
        self.assertEqual(loaded(text + " Z=both E E"), [0, 11, len(text) + 1])
        self.assertEqual(loaded(text + " Z"), [0, 3, len(text) + 2])
        self.assertEqual(loaded(text + " ~"), [0, 2, len(text) + 1])


class OneForm(unittest.TestCase):
    def form_of(self, text):
        return one_form(read_draft(tokens_of(as_bytes(text))))

    def test_till(self):
        self.assertEqual(self.form_of(TILL), TILL)
        self.assertEqual(self.form_of(dense(TILL_SETTLED)), TILL_SETTLED)

    def test_every_part(self):
        form = (
            "script T\nparties A B\nseat X of A\nseat Y of B\nstart S\n"
            "S = X -> Y { m(flag, num -5 10, text 255)[X, Y] S ; n()[X] E ; o(text 0) D }\n"
            "D = both E F\nE = end\nF = end\n"
        )
        self.assertEqual(self.form_of(form), form)
        self.assertEqual(self.form_of(dense(form)), form)
        self.assertEqual(self.form_of("#\n" + form.replace(" ", " \n\t# x\n")), form)

    def test_the_states_keep_their_order(self):
        form = "script T\nparties A\nstart Z\nB = end\nZ = end\nA = end\n"
        self.assertEqual(self.form_of(form), form)


if __name__ == "__main__":
    unittest.main()
