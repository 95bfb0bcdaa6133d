"""Answers a list of calls on one new object."""

from seatheld.asking import ask_acts, ask_beside, ask_doers, ask_holder, ask_matters, ask_moves
from seatheld.faults import TextFault
from seatheld.reading import read_script
from seatheld.recounting import ask_doings, ask_now, ask_options, ask_run, ask_say, ask_seats, ask_standing, ask_trail
from seatheld.settling import study_of
from seatheld.telling import Tale, options_of

NO_SCRIPT = -1
NOT_SETTLED = -3
NO_TALE = -7
LOAD = 0
SETTLED = 1
MATTERS = 3
FIRST_OF_TALE = 9
# For each call how many whole numbers follow it.
PLAIN_COUNTS = (0, 0, 2, 1, 1, 1, 2, 1, 0, 0, 1, 0, 1, 1, 1, 1, 0)
# load and run: a row follows, with its length before it.
WITH_ROW = (0, 11)


# study is None while no script is held, tale is None while there is none.
class Desk:
    def __init__(self):
        self.study = None
        self.tale = None


def answers(calls):
    desk = Desk()
    given = []
    at = 0
    while at < len(calls):
        call = calls[at]
        first = at + 1
        at = first + PLAIN_COUNTS[call]
        if call in WITH_ROW:
            first = at + 1
            at = first + calls[first - 1]
        answer = answer_call(desk, call, calls[first:at])
        given.append(len(answer))
        given.extend(answer)
    return given


def answer_call(desk, call, numbers):
    refusal = common_refusal(desk, call)
    if refusal != 0:
        return [refusal]
    return CALLS[call](desk, numbers)


# 0 where no refusal comes before the call's own ones.
def common_refusal(desk, call):
    if call == LOAD:
        return 0
    if desk.study is None:
        return NO_SCRIPT
    if len(desk.study.fault) > 0 and call not in (SETTLED, MATTERS):
        return NOT_SETTLED
    if call >= FIRST_OF_TALE and desk.tale is None:
        return NO_TALE
    return 0


def call_load(desk, text):
    try:
        script = read_script(text)
    except TextFault as fault:
        return [0, fault.code, fault.place]
    desk.study = study_of(script)
    desk.tale = None
    return [1]


def call_settled(desk, numbers):
    if len(desk.study.fault) > 0:
        return [0] + desk.study.fault
    return [1]


def call_holder(desk, numbers):
    return ask_holder(desk.study, numbers[0], numbers[1])


def call_matters(desk, numbers):
    return ask_matters(desk.study, numbers[0])


def call_acts(desk, numbers):
    return ask_acts(desk.study, numbers[0])


def call_doers(desk, numbers):
    return ask_doers(desk.study, numbers[0])


def call_moves(desk, numbers):
    return ask_moves(desk.study, numbers[0], numbers[1])


def call_beside(desk, numbers):
    return ask_beside(desk.study, numbers[0])


def call_begin(desk, numbers):
    desk.tale = Tale(desk.study.script)
    return [len(options_of(desk.tale))]


def call_options(desk, numbers):
    return ask_options(desk.tale)


def call_say(desk, numbers):
    return ask_say(desk.tale, numbers[0])


def call_run(desk, numbers):
    return ask_run(desk.tale, numbers)


def call_now(desk, numbers):
    return ask_now(desk.tale, numbers[0])


def call_seats(desk, numbers):
    return ask_seats(desk.tale, numbers[0])


def call_doings(desk, numbers):
    return ask_doings(desk.tale, numbers[0])


def call_trail(desk, numbers):
    return ask_trail(desk.tale, numbers[0])


def call_standing(desk, numbers):
    return ask_standing(desk.tale)


CALLS = (
    call_load, call_settled, call_holder, call_matters, call_acts, call_doers, call_moves,
    call_beside, call_begin, call_options, call_say, call_run, call_now, call_seats, call_doings,
    call_trail, call_standing,
)
