"""The two faults that end a reading early: of a text, and of a script's seats."""


class TextFault(Exception):
    def __init__(self, code, place):
        self.code = code
        self.place = place


class SeatFault(Exception):
    def __init__(self, code, state, step, who):
        self.code = code
        self.state = state
        self.step = step
        self.who = who
