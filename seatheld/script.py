"""A script with its things as numbers, and which states can be reached from which."""


# holders is the map of the start: for each seat the worker that holds it first.
class Script:
    def __init__(self, workers, holders, start, states):
        self.workers = workers
        self.holders = holders
        self.start = start
        self.states = states
        self.reaches = [reached(states, number) for number in range(len(states))]


# kind is "end", "both" or "talk"; what a kind does not have stays empty.
class State:
    def __init__(self, kind):
        self.kind = kind
        self.sides = []
        self.sender = None
        self.receiver = None
        self.branches = []


class Branch:
    def __init__(self, handed, target):
        self.handed = handed
        self.target = target


def states_behind(state):
    if state.kind == "talk":
        return [branch.target for branch in state.branches]
    return state.sides


# In the order in which they are met: later steps find the first fault by it.
def reached(states, number):
    met = [number]
    at = 0
    while at < len(met):
        state = states[met[at]]
        for behind in states_behind(state):
            if behind not in met:
                met.append(behind)
        at += 1
    return met
