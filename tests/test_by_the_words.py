"""Loads, and the calls 1 to 8, against the second reading of the document."""

import random
import unittest

from tests.helper import acts, ask, begin, beside, doers, holder, load, matters, moves, settled
from tests.second_reading import (
    acting, come_to, expected_load, make_script, many_models, met_from, seats_of, settle, spoil, talks_beside,
)


class AgainstTheSecondReading(unittest.TestCase):
    def test_loads(self):
        chance = random.Random(1)
        codes = {}
        for _ in range(4000):
            text = make_script(chance)
            if chance.random() < 0.8:
                text = spoil(chance, text)
            answer = expected_load(text)[0]
            self.assertEqual(ask(load(text)), [answer], text)
            code = answer[1] if answer[0] == 0 else 0
            codes[code] = codes.get(code, 0) + 1
        # Codes 1, 4 and 10 need more than is made here; their own tests are elsewhere.
        self.assertLessEqual({0, 2, 3, 5, 6, 8, 9, 11}, set(codes), codes)

    def test_calls(self):
        codes = {}
        for text, model in many_models(2, 1500):
            maps, fault = settle(model)
            code = fault[0] if fault else 0
            codes[code] = codes.get(code, 0) + 1
            self.check_calls(text, model, maps, fault)
        self.assertEqual(sorted(codes), [0, 1, 2, 3, 4], codes)
        self.assertGreater(min(codes.values()), 15, codes)

    def check_calls(self, text, model, maps, fault):
        calls, asked = [load(text), settled()], [[1], [0] + fault if fault else [1]]
        reached = met_from(model, model["start"])
        for number, state in enumerate(model["states"]):
            seats = seats_of(model, number)
            calls.append(matters(number))
            asked.append([len(seats)] + seats)
            if fault:
                continue
            calls += [acts(number), doers(number), beside(number)]
            if number not in reached:
                asked += [[-4]] * 3
                continue
            workers, talks = acting(model, maps, number), talks_beside(model, number)
            doing = [maps[number][seat] for seat in state[1:3]] if state[0] == "talk" else [-6]
            asked += [[len(workers)] + workers, doing, [len(talks)] + talks]
            for seat, worker in enumerate(maps[number]):
                calls.append(holder(number, seat))
                asked.append([worker if seat in seats else -5])
            for step, (handed, _) in enumerate(state[3] if state[0] == "talk" else []):
                calls.append(moves(number, step))
                asked.append([len(handed)] + [part for seat in handed for part in [seat] + doing])
        calls.append(begin())
        standing = come_to(model, model["start"])
        asked.append([-3] if fault else [sum(len(model["states"][at][3]) for at in standing)])
        self.assertEqual(ask(*calls), asked, text)


if __name__ == "__main__":
    unittest.main()
