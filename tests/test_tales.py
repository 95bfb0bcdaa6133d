"""Calls 9 to 16: tales told by hand, with their refusals, their limits and what leaves them as they were."""

import unittest

from tests.helper import (
    HUGE, TALE_CALLS, TILL, TILL_SETTLED, LongCase, ask, ask_of, begin, doings, load, now, options, run, say, script,
    seats, settled, standing, trail,
)

# States: 0 S, 1 T, 2 U, 3 W, 4 V, 5 E. Workers: A 0, B 1, C 2. Seats: X is 3, Y is 4, Z is 5.
RELAY = script(
    "S = A -> Z { two()[Y, X] T ; skip() S ; quit() E } T = X -> C { on()[X] U ; keep() V } U = Y -> X { on()[Y] W } "
    "W = X -> A { home()[X, Y] S } V = Y -> A { home()[Y, X] S ; lose() E } E = end",
    "A B C", "seat X of A seat Y of A seat Z of B",
)
# States: 0 S, 1 L, 2 R, 3 M, 4 N, 5 P, 6 K, 7 Q, 8 to 12 ends. Workers: A 0, B 1, C 2, D 3, F 4, G 5, H 6, I 7.
ABREAST = script(
    "S = both L R L = A -> B { m() L ; split() P ; n() E1 } R = both M N M = C -> D { m() M ; n() E2 ; o() M } "
    "N = F -> G { m() N ; n() E3 } P = both Q K K = A -> H { m() K ; n() E4 } Q = I -> B { m() Q ; n() E5 } "
    "E1 = end E2 = end E3 = end E4 = end E5 = end", "A B C D F G H I",
)
# The seat X, number 2, goes to and fro; the states: 0 S, 1 T, 2 E.
LOOP = script("S = A -> B { m() S ; give()[X] T ; n() E } T = X -> A { back()[X] S } E = end", "A B", "seat X of A")
WRONG = (-1, -2, -HUGE, 1 - HUGE, HUGE, HUGE - 1, 1000)


def in_tale(text, *calls):
    """The answers to these calls behind load and begin."""
    return ask_of(text, begin(), *calls)[1:]


def everything(workers, held):
    """Calls that tell all there is to tell of a tale and change nothing."""
    looks = [options(), standing()]
    looks += [call(worker) for worker in range(workers) for call in (seats, doings)]
    return looks + [call(seat) for seat in range(held) for call in (now, trail)]


class OptionsAndStanding(unittest.TestCase):
    def test_at_the_beginning(self):
        self.assertEqual(in_tale(TILL_SETTLED, options(), standing()), [[2, 0, 0, 0, 1], [1, 0]])
        self.assertEqual(
            in_tale(ABREAST, options(), standing()),
            [[8, 1, 0, 1, 1, 1, 2, 3, 0, 3, 1, 3, 2, 4, 0, 4, 1], [3, 1, 3, 4]])

    def test_a_start_state_that_is_no_talk(self):
        self.assertEqual(in_tale(script("S = end"), options(), standing(), say(0), run(0)), [[0], [0], [-8], [0]])
        self.assertEqual(
            in_tale(script("S = both E F E = end F = end"), options(), standing(), say(0), run(5, 6)),
            [[0], [0], [-8], [0]])
        self.assertEqual(
            in_tale(script("S = both E T T = A -> B { m() F } E = end F = end"), options(), standing()),
            [[1, 1, 0], [1, 1]])

    def test_a_start_state_that_is_not_the_first(self):
        text = script("E = end T = B -> A { m() E } S = A -> B { m() T }")
        self.assertEqual(in_tale(text, standing(), options(), say(0), standing()), [[1, 2], [1, 2, 0],
                         [0, 1, 0, 1, 2, 0], [1, 1]])

    def test_asking_changes_nothing(self):
        given = in_tale(ABREAST, *[options(), standing()] * 3)
        self.assertEqual(given, given[:2] * 3)

    def test_a_talk_that_comes_again_keeps_its_place(self):
        given = in_tale(ABREAST, say(0), standing(), say(3), standing(), say(6), standing())
        self.assertEqual(given, [
            [0, 1, 0, 1, 1, 0], [3, 1, 3, 4], [2, 3, 2, 3, 3, 0], [3, 1, 3, 4], [4, 5, 4, 5, 4, 0], [3, 1, 3, 4],
        ])

    def test_a_both_behind_a_branch_stands_in_the_place_of_its_talk(self):
        given = in_tale(ABREAST, say(1), standing(), options())
        self.assertEqual(given, [
            [0, 1, 0, 1, 1, 1], [4, 7, 6, 3, 4],
            [9, 7, 0, 7, 1, 6, 0, 6, 1, 3, 0, 3, 1, 3, 2, 4, 0, 4, 1],
        ])

    def test_an_end_behind_a_branch_leaves_the_others(self):
        given = in_tale(ABREAST, say(4), standing(), options(), say(1), standing(), say(1), standing(), options())
        self.assertEqual(given, [
            [2, 3, 2, 3, 3, 1], [2, 1, 4], [5, 1, 0, 1, 1, 1, 2, 4, 0, 4, 1], [0, 1, 0, 1, 1, 1], [3, 7, 6, 4],
            [7, 1, 7, 1, 7, 1], [2, 6, 4], [4, 6, 0, 6, 1, 4, 0, 4, 1],
        ])

    def test_until_nothing_stands(self):
        given = in_tale(ABREAST, say(2), standing(), say(1), standing(), say(1), standing(), options(), say(0))
        self.assertEqual(given[1::2], [[2, 3, 4], [1, 4], [0], [-8]])
        self.assertEqual(given[6], [0])

    def test_behind_run(self):
        self.assertEqual(in_tale(ABREAST, run(1, 5), standing()), [[2], [3, 7, 6, 4]])
        self.assertEqual(in_tale(ABREAST, run(1, 8, 3), standing(), options()),
                         [[3], [2, 7, 3], [5, 7, 0, 7, 1, 3, 0, 3, 1, 3, 2]])
        self.assertEqual(in_tale(ABREAST, run(2, 1, 1), standing(), options()), [[3], [0], [0]])

    def test_boths_within_boths_behind_a_branch(self):
        # Q is F's talk, K is A's and M is C's: the first side comes first, at any depth.
        for sides, asked in (
            ("P = both O Q O = both M K", [5, 4, 3]), ("P = both O Q O = both K M", [4, 5, 3]),
            ("P = both Q O O = both M K", [3, 5, 4]), ("P = both Q O O = both K M", [3, 4, 5]),
        ):
            text = script(
                "S = A -> B { m() P } " + sides + " Q = F -> G { m() E1 } K = A -> B { m() E2 } M = C -> D { m() E3 } "
                "E1 = end E2 = end E3 = end", "A B C D F G")
            self.assertEqual(in_tale(text, say(0), standing()), [[0, 1, 0, 1, 0, 0], [3] + asked], sides)
            self.assertEqual(in_tale(text, run(0, 1), standing()), [[2], [2, asked[0], asked[2]]], sides)

    def test_ends_within_boths_behind_a_branch(self):
        text = script(
            "S = A -> B { m() P } P = both E1 O O = both K E2 K = B -> A { m() E3 } E1 = end E2 = end E3 = end")
        self.assertEqual(in_tale(text, say(0), standing(), say(0), standing()),
                         [[0, 1, 0, 1, 0, 0], [1, 3], [1, 0, 1, 0, 3, 0], [0]])

    def test_boths_one_within_another_all_along(self):
        for sides in ("N%d E%d", "E%d N%d"):
            states = "S = A -> B { m() N0 } "
            for number in range(30):
                pair = (number + 1, number) if sides[0] == "N" else (number, number + 1)
                states += "N%d = both %s E%d = end " % (number, sides % pair, number)
            text = script(states + "N30 = B -> A { m() F } F = end")
            self.assertEqual(in_tale(text, say(0), standing(), say(0), standing()),
                             [[0, 1, 0, 1, 0, 0], [1, 61], [1, 0, 1, 0, 61, 0], [0]])


class Say(unittest.TestCase):
    def test_both_workers_as_it_was_before(self):
        # T and U send from a seat that their own message hands on.
        given = in_tale(RELAY, say(0), say(0), say(0), say(0))
        self.assertEqual(given, [[0, 1, 0, 5, 0, 0], [1, 2, 3, 2, 1, 0], [1, 2, 4, 3, 2, 0], [2, 0, 3, 0, 3, 0]])

    def test_every_branch(self):
        self.assertEqual(in_tale(RELAY, say(1), say(2), standing()),
                         [[0, 1, 0, 5, 0, 1], [0, 1, 0, 5, 0, 2], [0]])
        self.assertEqual(in_tale(RELAY, say(0), say(1), say(1)),
                         [[0, 1, 0, 5, 0, 0], [1, 2, 3, 2, 1, 1], [1, 0, 4, 0, 4, 1]])

    def test_no_such_option(self):
        for wrong in WRONG + (3,):
            self.assertEqual(in_tale(RELAY, say(wrong)), [[-8]], wrong)
        for wrong in WRONG + (8,):
            self.assertEqual(in_tale(ABREAST, say(wrong)), [[-8]], wrong)
        for wrong in WRONG + (0, 1):
            self.assertEqual(in_tale(RELAY, say(2), say(wrong)), [[0, 1, 0, 5, 0, 2], [-8]], wrong)

    def test_the_last_option(self):
        self.assertEqual(in_tale(ABREAST, say(7)), [[4, 5, 4, 5, 4, 1]])

    def test_a_log_of_1000(self):
        given = in_tale(LOOP, run(*[0] * 999), say(0), say(0), say(2), say(3), say(-1), say(HUGE), say(-HUGE))
        self.assertEqual(given, [[999], [0, 1, 0, 1, 0, 0], [-9], [-9], [-8], [-8], [-8], [-8]])

    def test_the_1000th_option_ends_the_tale(self):
        given = in_tale(LOOP, run(*[0] * 999), say(2), options(), say(0), run(0))
        self.assertEqual(given, [[999], [0, 1, 0, 1, 0, 2], [0], [-8], [0]])


class Run(unittest.TestCase):
    def test_how_many_were_told(self):
        self.assertEqual(in_tale(LOOP, run(0), run(0, 0, 0), run()), [[1], [3], [0]])

    def test_an_empty_list(self):
        looks = everything(3, 6)
        given = in_tale(RELAY, run(0, 0), *looks, run(), *looks)
        self.assertEqual(given[len(looks) + 1], [0])
        self.assertEqual(given[len(looks) + 2:], given[1:len(looks) + 1])

    def test_it_tells_what_say_tells(self):
        looks = everything(3, 6)
        told = in_tale(RELAY, say(0), say(0), say(0), say(0), say(1), say(0), say(1), *looks)[7:]
        self.assertEqual(in_tale(RELAY, run(0, 0, 0, 0, 1, 0, 1), *looks)[1:], told)
        self.assertEqual(in_tale(RELAY, run(0, 0), run(), run(0, 0, 1), run(0, 1), *looks)[4:], told)
        self.assertEqual(in_tale(RELAY, run(3, -2, HUGE, -HUGE, -2, HUGE - 1, -1), *looks)[1:], told)

    def test_the_remainder_from_0_on(self):
        # 10^18 leaves 1 behind with 3 options; every branch of S is told by its own remainder.
        for number, branch in (
            (0, 0), (1, 1), (2, 2), (3, 0), (4, 1), (5, 2), (-1, 2), (-2, 1), (-3, 0), (-4, 2), (HUGE, 1), (-HUGE, 2),
            (HUGE - 1, 0), (1 - HUGE, 0),
        ):
            self.assertEqual(in_tale(LOOP, run(number), doings(0)), [[1], [1, 0, 0, 1, 0, branch]], number)

    def test_the_remainder_of_the_options_there_are_now(self):
        # With 9 options and then 7: 10^18 leaves 1 behind with either, so the number below 0 is the last option.
        given = in_tale(ABREAST, run(1, HUGE, -HUGE), standing(), doings(7), doings(5), doings(3))
        self.assertEqual(given, [[3], [2, 6, 3], [1, 0, 7, 1, 7, 1], [1, 1, 4, 5, 4, 1], [0]])
        self.assertEqual(in_tale(ABREAST, run(-1, -1), standing()), [[2], [2, 1, 3]])

    def test_it_stops_where_there_are_no_options(self):
        self.assertEqual(in_tale(LOOP, run(0, 2, 0, 1), doings(0)), [[2], [2, 0, 0, 1, 0, 0, 0, 0, 1, 0, 2]])
        self.assertEqual(in_tale(LOOP, run(2), run(0), run(HUGE, -HUGE), run()), [[1], [0], [0], [0]])

    def test_it_stops_at_1000(self):
        self.assertEqual(in_tale(LOOP, run(*[0] * 2000), run(0), run(), say(0)), [[1000], [0], [0], [-9]])
        self.assertEqual(in_tale(LOOP, run(*[0] * 1000), run(0), say(0)), [[1000], [0], [-9]])
        self.assertEqual(in_tale(LOOP, run(*[0] * 999), run(0, 2), say(0)), [[999], [1], [-9]])
        self.assertEqual(in_tale(LOOP, run(*[0] * 600), run(*[0] * 600), run(0)), [[600], [400], [0]])

    def test_what_is_left_of_the_list_changes_nothing(self):
        given = in_tale(LOOP, run(*[0] * 1000 + [1]), now(2), standing(), options())
        self.assertEqual(given, [[1000], [0], [1, 0], [3, 0, 0, 0, 1, 0, 2]])


class NowAndSeats(unittest.TestCase):
    def test_at_the_beginning(self):
        self.assertEqual(in_tale(RELAY, *[now(seat) for seat in range(6)]), [[0], [1], [2], [0], [0], [1]])
        self.assertEqual(in_tale(RELAY, seats(0), seats(1), seats(2)), [[3, 0, 3, 4], [2, 1, 5], [1, 2]])

    def test_two_handed_at_once_to_who_sits_on_an_extra_seat(self):
        given = in_tale(RELAY, say(0), *[now(seat) for seat in range(6)], seats(0), seats(1), seats(2))
        self.assertEqual(given[1:], [[0], [1], [2], [1], [1], [1], [1, 0], [4, 1, 3, 4, 5], [1, 2]])

    def test_a_seat_handed_on_by_its_own_message(self):
        given = in_tale(RELAY, run(0, 0), now(3), now(4), seats(1), seats(2))
        self.assertEqual(given[1:], [[2], [1], [3, 1, 4, 5], [2, 2, 3]])
        given = in_tale(RELAY, run(0, 0, 0), now(3), now(4), seats(1), seats(2))
        self.assertEqual(given[1:], [[2], [2], [2, 1, 5], [3, 2, 3, 4]])

    def test_handed_back(self):
        given = in_tale(RELAY, run(0, 0, 0, 0), *[now(seat) for seat in range(6)], seats(0), seats(1), seats(2))
        self.assertEqual(given[1:], [[0], [1], [2], [0], [0], [1], [3, 0, 3, 4], [2, 1, 5], [1, 2]])

    def test_a_branch_that_hands_nothing(self):
        self.assertEqual(in_tale(RELAY, run(1, 1, 2), seats(0), seats(1)), [[3], [3, 0, 3, 4], [2, 1, 5]])
        self.assertEqual(in_tale(RELAY, run(0, 1, 1), seats(0), seats(1)), [[3], [1, 0], [4, 1, 3, 4, 5]])

    def test_sides_hand_on_by_themselves(self):
        text = script(
            "S = both T U T = A -> B { m()[X] V } U = C -> D { m()[Y] W } V = X -> A { m()[X] E } W = Y -> C { m() F } "
            "E = end F = end", "A B C D", "seat X of A seat Y of C")
        given = in_tale(text, say(1), seats(2), seats(3), seats(0), say(0), seats(1), say(0), seats(0), seats(3))
        self.assertEqual(given, [
            [2, 3, 2, 3, 2, 0], [1, 2], [2, 3, 5], [2, 0, 4], [0, 1, 0, 1, 1, 0], [2, 1, 4], [1, 0, 4, 0, 3, 0],
            [2, 0, 4], [2, 3, 5],
        ])

    def test_no_such_seat(self):
        for wrong in WRONG + (6,):
            self.assertEqual(in_tale(RELAY, now(wrong), run(0, 0), now(wrong)), [[-2], [2], [-2]], wrong)

    def test_no_such_worker(self):
        # 3 is a seat's number, but there are three workers alone.
        for wrong in WRONG + (3, 5, 6):
            self.assertEqual(in_tale(RELAY, seats(wrong), run(0, 0), seats(wrong)), [[-2], [2], [-2]], wrong)


class Doings(LongCase):
    ROUND = ([0, 5, 0, 0], [3, 2, 1, 0], [4, 3, 2, 0], [3, 0, 3, 0])

    def test_nothing_done(self):
        self.assertEqual(in_tale(RELAY, doings(0), doings(1), doings(2)), [[0], [0], [0]])

    def test_a_round_of_the_seats(self):
        first, second, third, fourth = self.ROUND
        given = in_tale(RELAY, run(0, 0, 0, 0), doings(0), doings(1), doings(2))
        self.assertEqual(given[1:], [
            [2, 0] + first + [1] + fourth,
            [3, 1] + first + [0] + second + [0] + third,
            [3, 1] + second + [1] + third + [0] + fourth,
        ])

    def test_the_holder_at_that_moment_does_it(self):
        # The same seats in a second round, ended otherwise: what was done before stays as it was.
        first, second, third, fourth = self.ROUND
        given = in_tale(RELAY, run(0, 0, 0, 0, 0, 1, 1), doings(0), doings(1), doings(2))
        self.assertEqual(given[1:], [
            [4, 0] + first + [1] + fourth + [0] + first + [1, 4, 0, 4, 1],
            [6, 1] + first + [0] + second + [0] + third + [1] + first + [0, 3, 2, 1, 1] + [0, 4, 0, 4, 1],
            [4, 1] + second + [1] + third + [0] + fourth + [1, 3, 2, 1, 1],
        ])

    def test_who_is_elsewhere_has_none(self):
        self.assertEqual(in_tale(ABREAST, run(0, 0, 3), doings(4), doings(7), doings(2)),
                         [[3], [0], [0], [1, 0, 2, 3, 3, 0]])

    def test_1000_options(self):
        given = in_tale(LOOP, run(*[0] * 2000), doings(0), doings(1))
        self.check_long(given, [[1000], [1000] + [0, 0, 1, 0, 0] * 1000, [1000] + [1, 0, 1, 0, 0] * 1000])
        given = in_tale(LOOP, run(*[1, 0] * 1000), doings(0), doings(1))
        self.check_long(given, [
            [1000], [1000] + [0, 0, 1, 0, 1, 1, 2, 0, 1, 0] * 500, [1000] + [1, 0, 1, 0, 1, 0, 2, 0, 1, 0] * 500,
        ])

    def test_no_such_worker(self):
        for wrong in WRONG + (3, 5, 6):
            self.assertEqual(in_tale(RELAY, doings(wrong), run(0, 0), doings(wrong)), [[-2], [2], [-2]], wrong)


class Trail(LongCase):
    def test_at_the_beginning(self):
        self.assertEqual(in_tale(RELAY, *[trail(seat) for seat in range(6)]),
                         [[1, 0], [1, 1], [1, 2], [1, 0], [1, 0], [1, 1]])

    def test_handed_on_and_back(self):
        self.assertEqual(in_tale(RELAY, say(0), trail(3), trail(4))[1:], [[2, 0, 1], [2, 0, 1]])
        self.assertEqual(in_tale(RELAY, run(0, 0), trail(3), trail(4))[1:], [[3, 0, 1, 2], [2, 0, 1]])
        self.assertEqual(in_tale(RELAY, run(0, 0, 0), trail(3), trail(4))[1:], [[3, 0, 1, 2], [3, 0, 1, 2]])
        self.assertEqual(in_tale(RELAY, run(0, 0, 0, 0), trail(3), trail(4))[1:], [[4, 0, 1, 2, 0], [4, 0, 1, 2, 0]])
        self.assertEqual(in_tale(RELAY, run(0, 0, 0, 0, 0, 1, 0, 2), trail(3), trail(4), trail(5))[1:],
                         [[6, 0, 1, 2, 0, 1, 0], [6, 0, 1, 2, 0, 1, 0], [1, 1]])

    def test_options_that_change_nothing_are_left_out(self):
        self.assertEqual(in_tale(RELAY, run(1, 1, 0, 1, 1), trail(3), trail(0), trail(2))[1:],
                         [[2, 0, 1], [1, 0], [1, 2]])

    def test_1000_options(self):
        self.check_long(in_tale(LOOP, run(*[1, 0] * 1000), trail(2), trail(0)),
                        [[1000], [1001] + [0, 1] * 500 + [0], [1, 0]])

    def test_no_such_seat(self):
        for wrong in WRONG + (6,):
            self.assertEqual(in_tale(RELAY, trail(wrong), run(0, 0), trail(wrong)), [[-2], [2], [-2]], wrong)


class BeginAnew(LongCase):
    def test_log_holders_and_standing(self):
        for text, workers, held in ((RELAY, 3, 6), (ABREAST, 8, 8), (LOOP, 2, 3), (TILL_SETTLED, 3, 4)):
            looks = everything(workers, held)
            fresh = in_tale(text, *looks)
            self.assertEqual(in_tale(text, run(1, 0, 0), begin(), *looks)[2:], fresh)
            self.assertEqual(in_tale(text, run(0, 1, 2, 3), *looks, begin(), *looks)[2 + len(looks):], fresh)
            self.check_long(in_tale(text, run(*[5] * 1500), say(0), begin(), *looks)[3:], fresh)

    def test_a_full_log_is_empty_again(self):
        given = in_tale(LOOP, run(*[0] * 1000), say(0), begin(), say(0), run(*[0] * 1000))
        self.assertEqual(given, [[1000], [-9], [3], [0, 1, 0, 1, 0, 0], [999]])

    def test_an_ended_tale_begins_anew(self):
        self.assertEqual(in_tale(LOOP, say(2), begin(), standing(), say(1), now(2)),
                         [[0, 1, 0, 1, 0, 2], [3], [1, 0], [0, 1, 0, 1, 0, 1], [1]])


class AsItWas(LongCase):
    REFUSED = (
        [say(wrong) for wrong in WRONG] + [now(wrong) for wrong in WRONG] + [seats(wrong) for wrong in WRONG]
        + [doings(wrong) for wrong in WRONG] + [trail(wrong) for wrong in WRONG]
        + [[2, -1, 0], [2, 5, 0], [3, HUGE], [4, -1], [5, 5], [6, 0, 9], [7, 99]]
    )

    def test_a_refusal_leaves_the_tale(self):
        looks = everything(3, 6)
        before = in_tale(RELAY, run(0, 0), *looks)[1:]
        for call in self.REFUSED:
            given = in_tale(RELAY, run(0, 0), call, *looks)
            self.assertEqual(len(given[1]), 1, call)
            self.assertLess(given[1][0], 0, call)
            self.assertEqual(given[2:], before, call)

    def test_a_full_log_is_left_as_it_was(self):
        looks = everything(2, 3)
        before = in_tale(LOOP, run(*[1, 0] * 500), *looks)[1:]
        self.check_long(in_tale(LOOP, run(*[1, 0] * 500), say(1), say(9), run(1, 1), *looks)[4:], before)

    def test_asking_leaves_the_tale(self):
        looks = everything(3, 6) + [settled(), [2, 0, 3], [3, 0], [4, 0], [5, 0], [6, 0, 0], [7, 0]]
        given = in_tale(RELAY, run(0, 0, 0), *looks, *looks)[1:]
        self.assertEqual(given[:len(looks)], given[len(looks):])

    def test_a_load_that_answers_0_leaves_the_tale(self):
        looks = everything(3, 6)
        before = in_tale(RELAY, run(0, 0), *looks)[1:]
        for text in ("", "@", "script", " " * 4097, TILL + "Done = end"):
            given = in_tale(RELAY, run(0, 0), load(text), *looks, say(0))
            self.assertEqual(given[1][0], 0, text)
            self.assertEqual(given[2:], before + [[1, 2, 4, 3, 2, 0]], text)

    def test_a_load_that_answers_1_ends_the_tale(self):
        for call in TALE_CALLS:
            self.assertEqual(in_tale(RELAY, run(0, 0), load(RELAY), call), [[2], [1], [-7]], call)
            self.assertEqual(in_tale(RELAY, run(0), load(RELAY), load("@"), call), [[1], [1], [0, 2, 0], [-7]], call)
            self.assertEqual(in_tale(RELAY, run(0), load(TILL), call), [[1], [1], [-3]], call)

    def test_a_new_script_has_a_tale_of_its_own(self):
        given = in_tale(RELAY, run(0, 0), load(LOOP), say(0), begin(), say(1), now(2), trail(2), doings(1), now(3))
        self.assertEqual(given, [[2], [1], [-7], [3], [0, 1, 0, 1, 0, 1], [1], [2, 0, 1], [1, 1, 0, 1, 0, 1], [-2]])


class RefusalsBeforeTheirOwn(unittest.TestCase):
    """-1, -3 and -7 come before -2, -8 and -9, whatever number is asked for."""

    CALLS = [call(number) for call in (say, now, seats, doings, trail) for number in (0,) + WRONG] + [
        options(), standing(), run(), run(0), run(-HUGE, HUGE),
    ]

    def test_each(self):
        for call in self.CALLS:
            self.assertEqual(ask(call), [[-1]], call)
            self.assertEqual(ask_of(TILL, call), [[-3]], call)
            self.assertEqual(ask_of(TILL, begin(), call), [[-3], [-3]], call)
            self.assertEqual(ask_of(RELAY, call), [[-7]], call)
            self.assertEqual(ask_of(RELAY, call, begin(), say(0)), [[-7], [3], [0, 1, 0, 5, 0, 0]], call)


if __name__ == "__main__":
    unittest.main()
