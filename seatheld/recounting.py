"""The answers about a tale, and those that go on with it."""

from seatheld.asking import NO_SUCH_THING, counted
from seatheld.telling import is_full, options_of, tell, tell_along

NO_OPTION = -8
LOG_FULL = -9


def ask_options(tale):
    options = options_of(tale)
    answer = [len(options)]
    for option in options:
        answer.extend(option)
    return answer


def ask_say(tale, number):
    options = options_of(tale)
    if not 0 <= number < len(options):
        return [NO_OPTION]
    if is_full(tale):
        return [LOG_FULL]
    message = tell(tale, options[number][0], options[number][1])
    return [message.sent_by, message.received_by] + places_of(tale, message)


# The two seats, the state and the branch, as say and doings both tell a message.
def places_of(tale, message):
    state = tale.script.states[message.number]
    return [state.sender, state.receiver, message.number, message.step]


def ask_run(tale, numbers):
    return [tell_along(tale, numbers)]


def ask_now(tale, seat):
    if not 0 <= seat < len(tale.holders):
        return [NO_SUCH_THING]
    return [tale.holders[seat]]


def has_worker(tale, worker):
    return 0 <= worker < tale.script.workers


def ask_seats(tale, worker):
    if not has_worker(tale, worker):
        return [NO_SUCH_THING]
    return counted([seat for seat, holder in enumerate(tale.holders) if holder == worker])


def ask_doings(tale, worker):
    if not has_worker(tale, worker):
        return [NO_SUCH_THING]
    count = 0
    doings = []
    for message in tale.log:
        for side, doer in enumerate((message.sent_by, message.received_by)):
            if doer == worker:
                count += 1
                doings.append(side)
                doings.extend(places_of(tale, message))
    return [count] + doings


def ask_trail(tale, seat):
    if not 0 <= seat < len(tale.holders):
        return [NO_SUCH_THING]
    trail = [tale.script.holders[seat]]
    for message in tale.log:
        branch = tale.script.states[message.number].branches[message.step]
        if seat in branch.handed and message.received_by != trail[-1]:
            trail.append(message.received_by)
    return counted(trail)


def ask_standing(tale):
    return counted(tale.standing)
