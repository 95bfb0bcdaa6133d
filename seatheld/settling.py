"""Finds who holds each seat at each state, and whether a script's seats are settled."""

from seatheld.faults import SeatFault


# maps has the map of each state come to so far; fault is empty, or the four numbers of the fault
# that was found first.
class Study:
    def __init__(self, script):
        self.script = script
        self.mattering = [seats_mattering(script, reach) for reach in script.reaches]
        self.maps = {script.start: list(script.holders)}
        self.fault = []


def study_of(script):
    study = Study(script)
    try:
        settle(study)
    except SeatFault as fault:
        study.fault = [fault.code, fault.state, fault.step, fault.who]
    return study


def seats_mattering(script, reach):
    seats = {}
    for number in reach:
        state = script.states[number]
        if state.kind == "talk":
            seats[state.sender] = True
            seats[state.receiver] = True
        for branch in state.branches:
            for seat in branch.handed:
                seats[seat] = True
    return sorted(seats)


def settle(study):
    order = study.script.reaches[study.script.start]
    for number in order:
        go_along(study, number)
    for number in order:
        check_sides(study, number)


def go_along(study, number):
    state = study.script.states[number]
    for step, side in enumerate(state.sides):
        come_to(study, number, step, side, study.maps[number])
    if state.kind == "talk":
        go_along_talk(study, number, state)


def go_along_talk(study, number, state):
    holders = study.maps[number]
    sender = holders[state.sender]
    if sender == holders[state.receiver]:
        raise SeatFault(1, number, 0, sender)
    for step, branch in enumerate(state.branches):
        for seat in branch.handed:
            if holders[seat] != sender:
                raise SeatFault(2, number, step, seat)
        come_to(study, number, step, branch.target, handed_on(holders, state, branch))


def handed_on(holders, state, branch):
    changed = list(holders)
    for seat in branch.handed:
        changed[seat] = holders[state.receiver]
    return changed


def come_to(study, origin, step, target, holders):
    if target not in study.maps:
        study.maps[target] = holders
    known = study.maps[target]
    for seat in study.mattering[target]:
        if known[seat] != holders[seat]:
            raise SeatFault(3, origin, step, seat)


def check_sides(study, number):
    state = study.script.states[number]
    if state.kind == "both":
        second = workers_acting(study, state.sides[1])
        for worker in workers_acting(study, state.sides[0]):
            if worker in second:
                raise SeatFault(4, number, 0, worker)


def workers_acting(study, number):
    workers = {}
    for at in study.script.reaches[number]:
        for worker in workers_talking(study, at):
            workers[worker] = True
    return sorted(workers)


# The holders of the sending and of the receiving seat, in this order; none where nobody talks.
def workers_talking(study, number):
    state = study.script.states[number]
    if state.kind != "talk":
        return []
    return [study.maps[number][state.sender], study.maps[number][state.receiver]]
