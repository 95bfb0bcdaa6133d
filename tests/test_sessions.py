"""Lists of calls made at random (with fixed seeds), answered by the program and by the second reading."""

import random
import unittest

from tests.helper import (
    HUGE, LongCase, acts, ask, begin, beside, doers, doings, holder, load, matters, moves, now, options, run, say,
    seats, settled, standing, trail,
)
from tests.second_reading import Session, make_script, many_models, settle, spoil


def a_number(chance, count):
    """Mostly one of so many, sometimes none of them."""
    if chance.random() < 0.85:
        return chance.randrange(max(count, 1))
    return chance.choice((-1, count, count + 1, HUGE, -HUGE, chance.randint(-HUGE, HUGE)))


def run_of(chance, least, most):
    return run(*[chance.choice((0, 1, -1, HUGE, -HUGE, chance.randint(-HUGE, HUGE)))
                 for _ in range(chance.randint(least, most))])


def a_call(chance, model):
    states, workers, held = len(model["states"]), model["workers"], len(model["holders"])
    return chance.choice((
        lambda: say(a_number(chance, 6)),
        lambda: say(a_number(chance, 2)),
        lambda: run_of(chance, 0, 5),
        options,
        standing,
        lambda: now(a_number(chance, held)),
        lambda: seats(a_number(chance, workers)),
        lambda: doings(a_number(chance, workers)),
        lambda: trail(a_number(chance, held)),
        lambda: rarer_call(chance, states, held),
    ))()


def rarer_call(chance, states, held):
    number = a_number(chance, states)
    return chance.choice((
        begin(), settled(), holder(number, a_number(chance, held)), matters(number), acts(number), doers(number),
        moves(number, a_number(chance, 3)), beside(number), load("no script"),
    ))


class Sessions(LongCase):
    def check(self, calls):
        session = Session()
        asked = [session.answer(call) for call in calls]
        self.check_long(ask(*calls), asked, calls)
        return asked

    def check_seen(self, seen, calls, asked):
        for call, answer in zip(calls, asked):
            if answer[0] >= 0:
                seen["abreast"] += call == standing() and answer[0] > 1
                seen["ended"] += call == standing() and answer[0] == 0
                seen["changed"] += call[0] == 15 and answer[0] > 1
                seen["changed again"] += call[0] == 15 and answer[0] > 2
                seen["from an extra seat"] += call[0] == 10 and answer[2] != answer[0]
                seen["to an extra seat"] += call[0] == 10 and answer[3] != answer[1]

    def test_one_script_each(self):
        chance = random.Random(11)
        kinds = ("abreast", "ended", "changed", "changed again", "from an extra seat", "to an extra seat")
        seen = dict.fromkeys(kinds, 0)
        for text, model in list(many_models(12, 60)) + list(many_models(16, 400, True)):
            calls = [load(text), begin()]
            for _ in range(60):
                calls.append(begin() if chance.random() < 0.05 else a_call(chance, model))
            self.check_seen(seen, calls, self.check(calls))
        self.assertGreater(min(seen.values()), 40, seen)

    def test_several_scripts_and_texts_that_are_none(self):
        chance = random.Random(13)
        model = {"states": [()] * 9, "workers": 4, "holders": (0,) * 6}
        for _ in range(150):
            calls = []
            while len(calls) < 60 and sum(len(call) for call in calls) < 12000:
                kind = chance.random()
                if kind < 0.1:
                    text = make_script(chance, chance.random() < 0.6)
                    calls.append(load(spoil(chance, text) if chance.random() < 0.4 else text))
                else:
                    calls.append(begin() if kind < 0.2 else a_call(chance, model))
            self.check(calls)

    def test_long_tales(self):
        chance = random.Random(14)
        full = 0
        for text, model in many_models(15, 150, True):
            if settle(model)[1]:
                continue
            calls = [load(text), begin()] + [run_of(chance, 200, 700) for _ in range(4)]
            calls += [say(k) for k in (0, -1, 1, 40)] + [run(1), standing(), options()]
            calls += [doings(worker) for worker in range(model["workers"])]
            calls += [call(seat) for call in (now, trail) for seat in range(len(model["holders"]))]
            full += self.check(calls)[6] == [-9]
        self.assertGreater(full, 25)


if __name__ == "__main__":
    unittest.main()
