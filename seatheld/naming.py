"""Turns a draft into a script: every name becomes the number of what it names."""

from seatheld.faults import TextFault
from seatheld.script import Branch, Script, State


# The three dicts give numbers by name; a state's name is given the first state that has it.
class Names:
    def __init__(self):
        self.parties = {}
        self.seats = {}
        self.states = {}


def script_of(draft):
    names = Names()
    holders = name_seats(draft, names)
    for number, state in enumerate(draft.states):
        names.states.setdefault(state.name.word, number)
    start = number_of(draft.start, names.states)
    states = []
    for number, state in enumerate(draft.states):
        if names.states[state.name.word] != number:
            raise TextFault(5, state.name.place)
        states.append(state_of(state, names))
    return Script(len(names.parties), holders, start, states)


def name_seats(draft, names):
    holders = []
    for name in draft.parties:
        add_name(name, names.seats)
        names.parties[name.word] = len(holders)
        holders.append(len(holders))
    for name, holder in draft.seats:
        add_name(name, names.seats)
        holders.append(number_of(holder, names.parties))
    return holders


def add_name(name, numbers):
    if name.word in numbers:
        raise TextFault(5, name.place)
    numbers[name.word] = len(numbers)


def number_of(name, numbers):
    if name.word not in numbers:
        raise TextFault(6, name.place)
    return numbers[name.word]


def state_of(draft, names):
    state = State(draft.kind)
    state.sides = [number_of(side, names.states) for side in draft.sides]
    if draft.kind == "talk":
        state.sender = number_of(draft.sender, names.seats)
        state.receiver = number_of(draft.receiver, names.seats)
        if state.receiver == state.sender:
            raise TextFault(8, draft.receiver.place)
        state.branches = branches_of(draft.branches, names)
    return state


def branches_of(drafts, names):
    labels = {}
    branches = []
    for draft in drafts:
        add_name(draft.label, labels)
        handed = handed_of(draft.handed, names)
        branches.append(Branch(handed, number_of(draft.target, names.states)))
    return branches


def handed_of(tokens, names):
    handed = []
    for name in tokens:
        seat = number_of(name, names.seats)
        if name.word in names.parties:
            raise TextFault(9, name.place)
        if seat in handed:
            raise TextFault(5, name.place)
        handed.append(seat)
    return handed
