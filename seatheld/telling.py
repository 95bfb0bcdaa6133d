"""A tale: at which talks a conversation stands, who holds each seat now, and what was told."""

from seatheld.settling import handed_on

MOST_TOLD = 1000


# log has the messages told, in order.
class Tale:
    def __init__(self, script):
        self.script = script
        self.standing = talks_come_to(script, script.start)
        self.holders = list(script.holders)
        self.log = []


# The two workers are kept, since later messages may change who holds the talk's seats.
class Message:
    def __init__(self, number, step, sent_by, received_by):
        self.number = number
        self.step = step
        self.sent_by = sent_by
        self.received_by = received_by


# The second side waits below the first, so that what stands by the first comes before it.
def talks_come_to(script, number):
    talks = []
    waiting = [number]
    while len(waiting) > 0:
        at = waiting.pop()
        if script.states[at].kind == "talk":
            talks.append(at)
        for side in reversed(script.states[at].sides):
            waiting.append(side)
    return talks


def options_of(tale):
    options = []
    for number in tale.standing:
        for step in range(len(tale.script.states[number].branches)):
            options.append((number, step))
    return options


def is_full(tale):
    return len(tale.log) == MOST_TOLD


def tell(tale, number, step):
    state = tale.script.states[number]
    branch = state.branches[step]
    message = Message(number, step, tale.holders[state.sender], tale.holders[state.receiver])
    place = tale.standing.index(number)
    come_to = talks_come_to(tale.script, branch.target)
    tale.standing = tale.standing[:place] + come_to + tale.standing[place + 1:]
    tale.holders = handed_on(tale.holders, state, branch)
    tale.log.append(message)
    return message


def tell_along(tale, numbers):
    told = 0
    for number in numbers:
        options = options_of(tale)
        if len(options) == 0 or is_full(tale):
            return told
        option = options[number % len(options)]
        tell(tale, option[0], option[1])
        told += 1
    return told
