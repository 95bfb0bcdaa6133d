"""What the tests share: writing calls, and reading answers back."""

import unittest

from seatheld.desk import answers

HUGE = 10 ** 18

TILL = """script Till
parties Buyer Shop Clerk
seat Desk of Shop
start Ask
Ask = Buyer -> Desk { want(text 20, num 1 9) Pass ; bye() Done }
Pass = Shop -> Clerk { take()[Desk] Pay }
Pay = Desk -> Buyer { price(num 0 500) Ask }
Done = end
"""
TILL_SETTLED = TILL.replace("500) Ask", "500) Done")


def as_bytes(text):
    return list(text.encode("ascii")) if isinstance(text, str) else list(text)


def load(text):
    row = as_bytes(text)
    return [0, len(row)] + row


def settled():
    return [1]


def holder(i, x):
    return [2, i, x]


def matters(i):
    return [3, i]


def acts(i):
    return [4, i]


def doers(i):
    return [5, i]


def moves(i, j):
    return [6, i, j]


def beside(i):
    return [7, i]


def begin():
    return [8]


def options():
    return [9]


def say(k):
    return [10, k]


def run(*numbers):
    return [11, len(numbers)] + list(numbers)


def now(x):
    return [12, x]


def seats(w):
    return [13, w]


def doings(w):
    return [14, w]


def trail(x):
    return [15, x]


def standing():
    return [16]


# One call of each number from 9 to 16, with rows of different lengths for run.
TALE_CALLS = (
    [9], [10, 0], [10, -HUGE], [11, 0], [11, 3, 0, 8, -1], [12, 0], [13, HUGE], [14, 1], [15, 2], [16],
)


def ask(*calls):
    """The answers to these calls, a list each."""
    given = answers([number for call in calls for number in call])
    split = []
    at = 0
    while at < len(given):
        split.append(given[at + 1:at + 1 + given[at]])
        at += 1 + given[at]
    if at != len(given) or len(split) != len(calls):
        raise AssertionError("answers do not fit the calls: %r" % (given,))
    return split


def ask_of(text, *calls):
    """The answers to these calls behind a load that must succeed."""
    given = ask(load(text), *calls)
    if given[0] != [1]:
        raise AssertionError("no script: %r" % (given[0],))
    return given[1:]


def loaded(text):
    return ask(load(text))[0]


def script(states, parties="A B C", seats="", start="S"):
    """A whole text around some states."""
    return "script T parties %s %s start %s %s" % (parties, seats, start, states)


def marked(text):
    """A text without its one mark, and the place of the byte that the mark stands before."""
    if text.count("^") != 1:
        raise AssertionError("one mark is asked for: %r" % (text,))
    return text.replace("^", ""), text.index("^")


class LongCase(unittest.TestCase):
    def check_long(self, given, asked, told=""):
        """Equal lists; of long ones that differ unittest's own message would take minutes to write."""
        if given == asked:
            return
        pairs = enumerate(zip(given, asked))
        at = next((number for number, (one, other) in pairs if one != other), min(len(given), len(asked)))
        given_part, asked_part = [str(numbers[at:at + 1])[:300] for numbers in (given, asked)]
        self.fail("at %d of %d and %d: %s is not %s; %s" % (
            at, len(given), len(asked), given_part, asked_part, str(told)[:3000]))


class FaultCase(unittest.TestCase):
    def check(self, code, text):
        """The marked text has this fault at its mark."""
        text, place = marked(text)
        self.assertEqual(loaded(text), [0, code, place], text)
