"""Codes 3, 4 and 7: the grammar, its limits and its ranges, from left to right."""

import unittest

from tests.helper import TILL, FaultCase, loaded, script

RESERVED = (
    "script parties seat of start end both flag num text part stop send recv program for def if pick any set go "
    "true false"
).split()
NAME_SLOTS = (
    "script ^@ parties A B seat X of A start S S = A -> B { m()[X] E } E = both E E",
    "script T parties ^@ B seat X of A start S S = A -> B { m()[X] E } E = end",
    "script T parties A seat ^@ of A start S S = A -> B { m()[X] E } E = end",
    "script T parties A seat X of ^@ start S S = A -> B { m()[X] E } E = end",
    "script T parties A seat X of A start ^@ S = A -> B { m()[X] E } E = end",
    "script T parties A seat X of A start S ^@ = A -> B { m()[X] E } E = end",
    "script T parties A seat X of A start S S = A -> ^@ { m()[X] E } E = end",
    "script T parties A seat X of A start S S = A -> B { ^@()[X] E } E = end",
    "script T parties A seat X of A start S S = A -> B { m()[^@] E } E = end",
    "script T parties A seat X of A start S S = A -> B { m()[X, ^@] E } E = end",
    "script T parties A seat X of A start S S = A -> B { m()[X] ^@ } E = end",
    "script T parties A seat X of A start S S = A -> B { m() ^@ } E = end",
    "script T parties A seat X of A start S S = A -> B { m()[X] E } ^@ = end",
    "script T parties A seat X of A start S S = A -> B { m()[X] E } E = both ^@ E",
    "script T parties A seat X of A start S S = A -> B { m()[X] E } E = both E ^@",
)


def names(stem, count):
    return ["%s%d" % (stem, number) for number in range(count)]


def parties_text(count, rest="start S S = end"):
    return "script T parties %s %s" % (" ".join(names("P", count)), rest)


def seats_text(count, rest="start S S = end"):
    return "script T parties A %s %s" % (" ".join("seat %s of A" % name for name in names("X", count)), rest)


def states_text(count, rest=""):
    return "script T parties A start S0 %s %s" % (" ".join("%s = end" % name for name in names("S", count)), rest)


def branches_text(count, rest="} E = end"):
    return script("S = A -> B { %s %s" % (" ; ".join("%s() E" % name for name in names("m", count)), rest))


def ranges_text(ranges, rest=") E } E = end"):
    return script("S = A -> B { m(%s%s" % (", ".join(ranges), rest))


def handed_text(handed):
    return script("S = A -> B { m()[%s] E } E = end" % handed, seats="seat X of A seat Y of A seat Z of A")


class Code3(FaultCase):
    def test_reserved_words_are_no_names(self):
        for slot in NAME_SLOTS:
            for word in RESERVED:
                self.check(3, slot.replace("@", word))

    def test_reserved_words_send_no_message(self):
        for word in RESERVED:
            if word not in ("end", "both"):
                self.check(3, script("S = ^%s -> B { m() E } E = end" % word))
        self.check(3, script("S = end ^-> B { m() E } E = end"))
        self.check(3, script("S = both ^-> B { m() E } E = end"))

    def test_no_other_token_is_a_name(self):
        for slot in NAME_SLOTS:
            for token in ["7", "-7", "->", "<-", '"x"'] + list("={}()[],;:!?|"):
                if "m() ^@" in slot and token == "[":
                    continue
                self.check(3, slot.replace("@", token))

    def test_every_token_is_needed(self):
        tokens = (
            "script T parties A B seat X of A start S S = A -> B { m ( num 1 2 , flag , text 3 ) [ X ] E ; n ( ) S } "
            "E = both F G F = end G = end"
        ).split()
        whole_after = (("}",), ("both", "F", "G"), ("end",))
        for count in range(len(tokens)):
            text = " ".join(tokens[:count])
            if not any(tuple(tokens[:count][-len(last):]) == last for last in whole_after):
                self.assertEqual(loaded(text), [0, 3, len(text)], text)
                self.assertEqual(loaded(text + " # x\n "), [0, 3, len(text) + 6], text)
        self.assertEqual(loaded(" ".join(tokens)), [1])

    def test_beginnings(self):
        self.check(3, "^parties A")
        self.check(3, "^T script")
        self.check(3, "script T ^start S S = end")
        self.check(3, "script T ^A start S S = end")
        self.check(3, "script T parties ^start S S = end")
        self.check(3, "script T parties ^seat X of A start S S = end")
        self.check(3, "script T parties A^, B start S S = end")
        self.check(3, "script T parties A ^parties B start S S = end")
        self.check(3, "script T parties A seat X ^A start S S = end")
        self.check(3, "script T parties A seat X of A ^B start S S = end")
        self.check(3, "script T parties A start S ^seat X of A S = end")
        self.check(3, "script T parties A start S ^= end")

    def test_at_least_one_state(self):
        self.check(3, "script T parties A start S^")
        self.check(3, "script T parties A start S \n# S = end^")

    def test_states(self):
        self.check(3, script("S ^end"))
        self.check(3, script("S = ^= end"))
        self.check(3, script("S = end ^end"))
        self.check(3, script("S = end^; E = end"))
        self.check(3, script("S = both S ^; E = end"))
        self.check(3, script("S = both S E ^-> E = end"))
        self.check(3, script("S = A ^B -> C"))
        self.check(3, script("S = A -> B ^m() E"))
        self.check(3, script("S = A -> B { ^}"))
        self.check(3, script("S = A -> B { m() E ^n() E }"))
        self.check(3, script("S = A -> B { m() E ; ^}"))
        self.check(3, script("S = A -> B { m() E ; ^; n() E }"))
        self.check(3, script("S = A -> B { m() E ^, n() E }"))
        self.check(3, script("S = A -> B { m() E } ^; E = end"))
        self.check(3, script("S = ^"))

    def test_branches(self):
        self.check(3, script("S = A -> B { m ^E }"))
        self.check(3, script("S = A -> B { m() ^}"))
        self.check(3, script("S = A -> B { m()^() E }"))
        self.check(3, script("S = A -> B { m^[X] E }"))
        self.check(3, script("S = A -> B { m()[^] E }"))
        self.check(3, script("S = A -> B { m()[X ^Y] E }"))
        self.check(3, script("S = A -> B { m()[X,^] E }"))
        self.check(3, script("S = A -> B { m()[^,X] E }"))
        self.check(3, script("S = A -> B { m()[X]^[Y] E }"))
        self.check(3, script("S = A -> B { m()[X^;Y] E }"))
        self.check(3, script("S = A -> B { m() E ^[X] }"))

    def test_ranges(self):
        self.check(3, script("S = A -> B { m(^A) E }"))
        self.check(3, script("S = A -> B { m(^7) E }"))
        self.check(3, script("S = A -> B { m(^,) E }"))
        self.check(3, script("S = A -> B { m(flag^;flag) E }"))
        self.check(3, script("S = A -> B { m(flag ^flag) E }"))
        self.check(3, script("S = A -> B { m(flag ^1) E }"))
        self.check(3, script("S = A -> B { m(flag,^) E }"))
        self.check(3, script("S = A -> B { m(flag,^,flag) E }"))
        self.check(3, script("S = A -> B { m(num^) E }"))
        self.check(3, script("S = A -> B { m(num 1^) E }"))
        self.check(3, script("S = A -> B { m(num 1^, 2) E }"))
        self.check(3, script("S = A -> B { m(num 1 2 ^3) E }"))
        self.check(3, script("S = A -> B { m(num ^x 2) E }"))
        self.check(3, script("S = A -> B { m(text^) E }"))
        self.check(3, script("S = A -> B { m(text 1 ^2) E }"))
        self.check(3, script("S = A -> B { m(text^, flag) E }"))
        self.check(3, script("S = A -> B { m(^true) E }"))


class Code4(FaultCase):
    def test_parties(self):
        self.assertEqual(loaded(parties_text(1)), [1])
        self.assertEqual(loaded(parties_text(8)), [1])
        self.check(4, parties_text(8, "^P8 start S S = end"))
        self.check(4, parties_text(8, "^P0 start S S = end"))
        self.check(4, parties_text(8, "^P8 7 7 7"))
        self.check(3, parties_text(8, "^7 start S S = end"))
        self.check(3, parties_text(8, "^of start S S = end"))
        self.check(3, parties_text(8, "^"))

    def test_seats(self):
        self.assertEqual(loaded(seats_text(0)), [1])
        self.assertEqual(loaded(seats_text(8)), [1])
        self.check(4, seats_text(8, "^seat X8 of A start S S = end"))
        self.check(4, seats_text(8, "^seat seat seat"))
        self.check(4, seats_text(8, "^seat"))
        self.check(3, seats_text(8, "^X8 of A start S S = end"))
        self.check(3, seats_text(7, "seat X8 of ^seat X9 of A"))

    def test_states(self):
        self.assertEqual(loaded(states_text(1)), [1])
        self.assertEqual(loaded(states_text(64)), [1])
        self.check(4, states_text(64, "^S64 = end"))
        self.check(4, states_text(64, "^S64"))
        self.check(4, states_text(64, "^S0 = end"))
        self.check(3, states_text(64, "^end"))
        self.check(3, states_text(64, "^7 = end"))
        self.check(3, states_text(63, "S63 ^S64 = end"))

    def test_branches(self):
        self.assertEqual(loaded(branches_text(1)), [1])
        self.assertEqual(loaded(branches_text(8)), [1])
        self.check(4, branches_text(8, "; ^m8() E } E = end"))
        self.check(4, branches_text(8, "; ^m0() E } E = end"))
        self.check(4, branches_text(8, "; ^m8 7"))
        self.check(3, branches_text(8, "; ^} E = end"))
        self.check(3, branches_text(8, "; ^"))
        self.check(3, branches_text(8, "; ^end() E } E = end"))
        self.check(3, branches_text(8, "; ^; m8() E } E = end"))
        self.check(3, branches_text(8, "^m8() E } E = end"))

    def test_ranges(self):
        self.assertEqual(loaded(ranges_text([])), [1])
        self.assertEqual(loaded(ranges_text(["flag"] * 4)), [1])
        self.assertEqual(loaded(ranges_text(["num 1 2", "text 0", "flag", "text 255"])), [1])
        for word in ("flag", "num", "text", "num 1 2", "text 9", "num 2 1", "text 256"):
            self.check(4, ranges_text(["flag"] * 4 + ["^" + word]))
        self.check(3, ranges_text(["flag"] * 4, ", ^) E } E = end"))
        self.check(3, ranges_text(["flag"] * 4, ", ^true) E } E = end"))
        self.check(3, ranges_text(["flag"] * 4, ", ^x) E } E = end"))
        self.check(3, ranges_text(["flag"] * 4, ", ^, flag) E } E = end"))
        self.check(3, ranges_text(["flag"] * 4, " ^flag) E } E = end"))
        self.check(3, ranges_text(["flag"] * 4, ", ^"))

    def test_handed_seats(self):
        self.assertEqual(loaded(handed_text("X")), [1])
        self.assertEqual(loaded(handed_text("X, Y")), [1])
        self.check(4, handed_text("X, Y, ^Z"))
        self.check(4, handed_text("X, X, ^X"))
        self.check(4, handed_text("X, Y, ^Z 7"))
        self.check(3, handed_text("X, Y, ^"))
        self.check(3, handed_text("X, Y, ^7"))
        self.check(3, handed_text("X, Y, ^end"))
        self.check(3, handed_text("X, Y ^Z"))

    def test_everything_at_its_largest(self):
        parties = " ".join(names("P", 8))
        seats = " ".join("seat %s of P0" % name for name in names("X", 8))
        branches = " ; ".join("%s(flag, flag, flag, flag)[X0, X1] E" % name for name in names("m", 8))
        ends = " ".join("%s = end" % name for name in names("F", 62))
        text = script("S = P0 -> P1 { %s } E = end %s" % (branches, ends), parties, seats)
        self.assertEqual(loaded(text), [1])


class Code7(FaultCase):
    def test_num(self):
        self.assertEqual(loaded(ranges_text(["num 5 5"])), [1])
        self.assertEqual(loaded(ranges_text(["num -5 -5"])), [1])
        self.assertEqual(loaded(ranges_text(["num -6 -5"])), [1])
        self.check(7, ranges_text(["num 5 ^4"]))
        self.check(7, ranges_text(["num 0 ^-1"]))
        self.check(7, ranges_text(["num -5 ^-6"]))
        self.check(7, ranges_text(["num 10 ^9"]))
        self.check(7, ranges_text(["num 1000000000 ^-1000000000"]))
        self.check(7, ranges_text(["flag", "num 1 2", "num 2 ^1"]))

    def test_both_numbers_are_read_before_they_are_compared(self):
        self.check(3, ranges_text(["num 5 ^x"]))
        self.check(3, ranges_text(["num 5^"]))
        self.check(7, ranges_text(["num 5 ^4 x"]))

    def test_text(self):
        self.assertEqual(loaded(ranges_text(["text 0"])), [1])
        self.assertEqual(loaded(ranges_text(["text 255"])), [1])
        self.check(7, ranges_text(["text ^256"]))
        self.check(7, ranges_text(["text ^-1"]))
        self.check(7, ranges_text(["text ^1000000000"]))
        self.check(7, ranges_text(["text ^-1000000000"]))
        self.check(7, ranges_text(["text ^256 7"]))


class FirstOfThem(FaultCase):
    def test_whichever_comes_first_in_the_text(self):
        self.check(7, script("S = A -> B { m(num 2 ^1) E ; ; }"))
        self.check(3, script("S = A -> B { m() ^; n(num 2 1) E }"))
        self.check(7, ranges_text(["text ^256", "flag", "flag", "flag", "flag"]))
        self.check(4, ranges_text(["flag", "flag", "flag", "flag", "^text 256"]))
        self.check(4, parties_text(8, "^P8 start S S = A -> B { m(text 256) E }"))
        self.check(7, states_text(64 - 1, "S63 = A -> B { m(text ^256) E } S64 = end"))
        self.check(4, branches_text(8, "; ^m8(text 256)[X, Y, Z] E } E = end"))
        self.check(3, script("S = A -> B { m()[X, Y ^; Z] E }"))

    def test_grammar_comes_before_names(self):
        self.check(3, TILL.replace("Buyer Shop", "Buyer Buyer") + "^;")
        self.check(7, script("S = A -> A { m() Q ; m(text ^999) Q }"))
        self.check(4, "script T parties A A A A A A A A ^A start S S = end")


if __name__ == "__main__":
    unittest.main()
