"""The promises, over tales that the program tells and over every moment of tales that the second reading tells."""

import random
import unittest

from seatheld.reading import read_script
from seatheld.telling import Tale, tell_along
from tests.helper import (
    acts, as_bytes, ask, begin, beside, doers, doings, holder, load, matters, moves, now, options, run, say, seats,
    settled, standing, trail,
)
from tests.second_reading import come_to, many_models, met_from, tale_moments, tell

STEPS = 12


def told_of(text, model, call):
    """What this call tells of each state that can be reached."""
    reached = met_from(model, model["start"])
    return dict(zip(reached, ask(load(text), *[call(number) for number in reached])[1:]))


class Step:
    """A moment of a tale, as the calls tell it: where it stands, its options, the holders, what say answers then."""

    def __init__(self, given, count):
        self.standing = given[0][1:]
        self.options = [tuple(given[1][at:at + 2]) for at in range(1, len(given[1]), 2)]
        self.held = [answer[0] for answer in given[2:2 + count]]
        self.said = given[2 + count]


class ToldTale:
    """A tale of at most so many options, told by say, and what everybody has done at its end."""

    def __init__(self, text, model, chance):
        count = len(model["holders"])
        self.numbers = []
        for _ in range(STEPS):
            open_now = ask(load(text), begin(), run(*self.numbers), options())[-1][0]
            if open_now == 0:
                break
            self.numbers.append(chance.randrange(open_now))
        looks = [standing(), options()] + [now(seat) for seat in range(count)]
        calls = [load(text), begin()]
        for number in self.numbers:
            calls += looks + [say(number)]
        # The last say is refused, so that the tale ends here.
        calls += looks + [say(-1)] + [doings(worker) for worker in range(model["workers"])]
        given = ask(*calls)[2:]
        width = len(looks) + 1
        self.steps = [Step(given[at * width:], count) for at in range(len(self.numbers) + 1)]
        self.last = self.steps.pop()
        self.doings = []
        for answer in given[width * (len(self.numbers) + 1):]:
            self.doings.append([answer[at:at + 5] for at in range(1, len(answer), 5)])
            if len(self.doings[-1]) != answer[0]:
                raise AssertionError("doings do not fit their count: %r" % (answer,))


class TalesOfTheProgram(unittest.TestCase):
    @classmethod
    def setUpClass(cls):
        chance = random.Random(21)
        cls.tales = []
        for text, model in list(many_models(22, 150)) + list(many_models(23, 250, True)):
            if ask(load(text), settled())[1] == [1]:
                cls.tales.append((text, model, ToldTale(text, model, chance)))

    def test_enough_was_told(self):
        steps = [(model, step) for _, model, tale in self.tales for step in tale.steps]
        self.assertGreater(len(steps), 1000)
        self.assertGreater(len([1 for _, step in steps if len(step.standing) > 1]), 200)
        self.assertGreater(len([1 for model, step in steps if step.held != model["holders"]]), 200)

    def test_promise_1(self):
        handed = 0
        for text, model, tale in self.tales:
            moved = ask(load(text), *[moves(*step.said[4:]) for step in tale.steps])[1:]
            for step, move in zip(tale.steps, moved):
                sender, receiver, sending, receiving, at, branch = step.said
                self.assertNotEqual(sender, receiver, text)
                self.assertEqual([sender, receiver], [step.held[sending], step.held[receiving]], text)
                asked = model["states"][at][3][branch][0]
                self.assertEqual(move, [len(asked)] + [n for seat in asked for n in (seat, sender, receiver)], text)
                self.assertEqual([step.held[seat] for seat in asked], [sender] * len(asked), text)
                handed += len(asked)
        self.assertGreater(handed, 200)

    def test_what_a_message_hands_is_its_receivers_and_the_rest_stays(self):
        for text, model, tale in self.tales:
            for step, later in zip(tale.steps, tale.steps[1:] + [tale.last]):
                receiver, at, branch = step.said[1], step.said[4], step.said[5]
                asked = list(step.held)
                for seat in model["states"][at][3][branch][0]:
                    asked[seat] = receiver
                self.assertEqual(later.held, asked, text)

    def test_promise_2(self):
        for text, model, tale in self.tales:
            mattering = told_of(text, model, matters)
            for step in tale.steps + [tale.last]:
                asked = [(at, seat) for at in step.standing for seat in range(len(step.held))]
                given = ask(load(text), *[holder(at, seat) for at, seat in asked])[1:]
                for (at, seat), answer in zip(asked, given):
                    matters_here = seat in mattering[at][1:]
                    self.assertEqual(answer, [step.held[seat] if matters_here else -5], text)

    def test_promise_3_no_worker_in_common(self):
        for text, model, tale in self.tales:
            doing = told_of(text, model, doers)
            for step in tale.steps + [tale.last]:
                workers = [worker for at in step.standing for worker in doing[at]]
                self.assertEqual(len(workers), len(set(workers)), text)

    def test_promise_3_either_order(self):
        pairs = 0
        chance = random.Random(24)
        for text, model, tale in self.tales:
            for number, step in enumerate(tale.steps):
                if len(set(step.standing)) < 2:
                    continue
                one, other = chance.sample(step.options, 2)
                if one[0] != other[0]:
                    pairs += 1
                    before = tale.numbers[:number]
                    self.assertEqual(
                        self.after(text, model, before, (one, other)),
                        self.after(text, model, before, (other, one)), text)
        self.assertGreater(pairs, 100)

    def after(self, text, model, before, told):
        """Who holds what, where the tale stands and what everybody has done, behind these options."""
        numbers = list(before)
        for option in told:
            answer = ask(load(text), begin(), run(*numbers), options())[-1]
            numbers.append([tuple(answer[at:at + 2]) for at in range(1, len(answer), 2)].index(option))
        looks = [standing(), options()]
        looks += [call(seat) for seat in range(len(model["holders"])) for call in (now, trail)]
        looks += [call(worker) for worker in range(model["workers"]) for call in (seats, doings)]
        return ask(load(text), begin(), run(*numbers), *looks)[3:]

    def test_promise_4(self):
        for text, model, tale in self.tales:
            acting = told_of(text, model, acts)
            for number, step in enumerate(tale.steps):
                self.assertLessEqual(set(step.said[:2]), set(acting[step.said[4]][1:]), text)
                able = {worker for at in step.standing for worker in acting[at][1:]}
                for later in tale.steps[number:]:
                    self.assertLessEqual(set(later.said[:2]), able, text)
            busy = {worker for worker, done in enumerate(tale.doings) if done}
            self.assertLessEqual(busy, set(acting[model["start"]][1:]), text)

    def test_promise_5(self):
        for text, model, tale in self.tales:
            self.assertEqual(sum(len(done) for done in tale.doings), 2 * len(tale.steps), text)
            left = [list(done) for done in tale.doings]
            for step in tale.steps:
                sends, receives = [0] + step.said[2:], [1] + step.said[2:]
                self.assertEqual(left[step.said[0]].pop(0), sends, text)
                self.assertEqual(left[step.said[1]].pop(0), receives, text)
                self.assertEqual(len(set(step.said[:2])), 2, text)
            self.assertEqual(left, [[]] * model["workers"], text)


class MapsAndMoments(unittest.TestCase):
    """What the calls tell of settled scripts, held against every moment of tales that the second reading tells."""

    @classmethod
    def setUpClass(cls):
        cls.settled = []
        for text, model in many_models(3, 900):
            if ask(load(text), settled())[1] == [1]:
                cls.settled.append((text, model, tale_moments(model, 400)))

    def test_enough_was_made(self):
        abreast, handing = 0, 0
        for _, model, moments in self.settled:
            abreast += any(len(standing) > 1 for standing, _ in moments)
            handing += any(held != tuple(model["holders"]) for _, held in moments)
        self.assertGreater(abreast, 50)
        self.assertGreater(handing, 50)

    def test_promise_1_messages_go_to_another_worker(self):
        for text, model, moments in self.settled:
            told = told_of(text, model, doers)
            for standing, held in moments:
                for at in standing:
                    state = model["states"][at]
                    sender, receiver = told[at]
                    self.assertNotEqual(sender, receiver, text)
                    self.assertEqual([held[state[1]], held[state[2]]], [sender, receiver], text)
                    for handed, _ in state[3]:
                        self.assertEqual([held[seat] for seat in handed], [sender] * len(handed), text)

    def test_promise_2_the_map_tells_the_holder_now(self):
        for text, model, moments in self.settled:
            reached = met_from(model, model["start"])
            asked = [(number, seat) for number in reached for seat in range(len(model["holders"]))]
            answers = []
            for at in range(0, len(asked), 300):
                answers += ask(load(text), *[holder(number, seat) for number, seat in asked[at:at + 300]])[1:]
            told = dict(zip(asked, answers))
            for standing, held in moments:
                for at in standing:
                    for seat, worker in enumerate(held):
                        self.assertIn(told[at, seat], ([worker], [-5]), text)
                    for seat in model["states"][at][1:3]:
                        self.assertEqual(told[at, seat], [held[seat]], text)

    def test_promise_3_talks_beside_one_another_are_free(self):
        for text, model, moments in self.settled:
            doing, near = told_of(text, model, doers), told_of(text, model, beside)
            for standing, held in moments:
                for at in standing:
                    for other in standing:
                        if at != other:
                            self.assertEqual(set(doing[at]) & set(doing[other]), set(), text)
                            self.assertIn(other, near[at][1:], text)
                            self.check_either_order(model, standing, held, at, other)

    def check_either_order(self, model, standing, held, at, other):
        for step in range(len(model["states"][at][3])):
            for second in range(len(model["states"][other][3])):
                one = tell(model, *tell(model, standing, held, at, step), other, second)
                two = tell(model, *tell(model, standing, held, other, second), at, step)
                self.assertEqual(one, two)

    def test_promise_4_who_does_something_acts(self):
        for text, model, moments in self.settled:
            told = told_of(text, model, acts)
            for number in told:
                # From every state on, and not from the start alone: a tale of what is left of the script.
                for at in met_from(model, number):
                    if model["states"][at][0] == "talk":
                        for held in [held for standing, held in moments if at in standing]:
                            for seat in model["states"][at][1:3]:
                                self.assertIn(held[seat], told[number][1:], text)

    def test_promise_5_two_workers_for_each_option(self):
        for text, model, moments in self.settled:
            told = told_of(text, model, doers)
            for standing, held in moments:
                for at in standing:
                    state = model["states"][at]
                    doing = [w for w in range(model["workers"]) if w in (held[state[1]], held[state[2]])]
                    self.assertEqual(doing, sorted(told[at]), text)
                    self.assertEqual(len(doing), 2, text)


class FaultsCanBeMet(unittest.TestCase):
    """Promise 6, over scripts with the codes 1 and 2."""

    @classmethod
    def setUpClass(cls):
        cls.faulty = []
        for text, model in many_models(25, 1500):
            answer = ask(load(text), settled())[1]
            if answer != [1] and answer[1] in (1, 2):
                cls.faulty.append((text, model, answer[1:]))

    def test_enough_was_made(self):
        for code in (1, 2):
            self.assertGreater(len([1 for _, _, fault in self.faulty if fault[0] == code]), 20)

    def meets(self, model, fault, now_standing, held):
        code, number, step, who = fault
        if number not in now_standing:
            return False
        state = model["states"][number]
        sender, receiver = held[state[1]], held[state[2]]
        if code == 1:
            return sender == receiver == who
        return sender != receiver and who in state[3][step][0] and held[who] != sender

    def test_promise_6(self):
        for text, model, fault in self.faulty:
            self.assertTrue(any(self.meets(model, fault, *moment) for moment in tale_moments(model)), text)

    def test_promise_6_in_a_tale_of_the_program(self):
        # No call tells a tale of such a script, so the tale is told below the calls.
        for text, model, fault in self.faulty:
            tale = Tale(read_script(as_bytes(text)))
            numbers = self.way_to(model, fault)
            self.assertEqual(tell_along(tale, numbers), len(numbers), text)
            self.assertTrue(self.meets(model, fault, tale.standing, tale.holders), text)

    def way_to(self, model, fault):
        """Numbers of options that lead to a moment with this fault."""
        first = (come_to(model, model["start"]), tuple(model["holders"]))
        ways = {first: []}
        waiting = [first]
        for moment in waiting:
            if self.meets(model, fault, *moment):
                return ways[moment]
            open_now = [(at, step) for at in moment[0] for step in range(len(model["states"][at][3]))]
            for number, (at, step) in enumerate(open_now):
                later = tell(model, *moment, at, step)
                if later not in ways:
                    ways[later] = ways[moment] + [number]
                    waiting.append(later)
        raise AssertionError("no tale meets the fault %r" % (fault,))


if __name__ == "__main__":
    unittest.main()
