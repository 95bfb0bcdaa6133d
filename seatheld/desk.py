"""Answers a list of calls on one new object."""

from seatheld.asking import ask_acts, ask_beside, ask_doers, ask_holder, ask_matters, ask_moves
from seatheld.faults import TextFault
from seatheld.reading import read_script
from seatheld.settling import study_of
from seatheld.telling import Tale, count_options

NO_SCRIPT = -1
NOT_SETTLED = -3
NO_TALE = -7
LOAD = 0
SETTLED = 1
MATTERS = 3
FIRST_OF_TALE = 9
# For each call how many whole numbers follow it.
PLAIN_COUNTS = (0, 0, 2, 1, 1, 1, 2, 1, 0, 0, 1, 0, 1, 1, 1, 1, 0)
# load and run: a row follows, with its length before it.
WITH_ROW = (0, 11)


# study is None while no script is held, tale is None while there is none.
class Desk:
    def __init__(self):
        self.study = None
        self.tale = None


def answers(calls):
    desk = Desk()
    given = []
    at = 0
    while at < len(calls):
        call = calls[at]
        first = at + 1
        at = first + PLAIN_COUNTS[call]
        if call in WITH_ROW:
            first = at + 1
            at = first + calls[first - 1]
        answer = answer_call(desk, call, calls[first:at])
        given.append(len(answer))
        given.extend(answer)
    return given


def answer_call(desk, call, numbers):
    refusal = common_refusal(desk, call)
    if refusal != 0:
        return [refusal]
    if call >= FIRST_OF_TALE:
        raise NotImplementedError("the calls 9 to 16 on a tale")
    return CALLS[call](desk, numbers)


# 0 where no refusal comes before the call's own ones.
def common_refusal(desk, call):
    if call == LOAD:
        return 0
    if desk.study is None:
        return NO_SCRIPT
    if len(desk.study.fault) > 0 and call not in (SETTLED, MATTERS):
        return NOT_SETTLED
    if call >= FIRST_OF_TALE and desk.tale is None:
        return NO_TALE
    return 0


def call_load(desk, text):
    try:
        script = read_script(text)
    except TextFault as fault:
        return [0, fault.code, fault.place]
    desk.study = study_of(script)
    desk.tale = None
    return [1]


def call_settled(desk, numbers):
    if len(desk.study.fault) > 0:
        return [0] + desk.study.fault
    return [1]


def call_holder(desk, numbers):
    return ask_holder(desk.study, numbers[0], numbers[1])


def call_matters(desk, numbers):
    return ask_matters(desk.study, numbers[0])


def call_acts(desk, numbers):
    return ask_acts(desk.study, numbers[0])


def call_doers(desk, numbers):
    return ask_doers(desk.study, numbers[0])


def call_moves(desk, numbers):
    return ask_moves(desk.study, numbers[0], numbers[1])


def call_beside(desk, numbers):
    return ask_beside(desk.study, numbers[0])


def call_begin(desk, numbers):
    desk.tale = Tale(desk.study.script)
    return [count_options(desk.study.script, desk.tale)]


CALLS = (
    call_load, call_settled, call_holder, call_matters, call_acts, call_doers, call_moves,
    call_beside, call_begin,
)
