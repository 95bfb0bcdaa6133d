"""Reads a script's tokens into a draft: its parts as they are written, names not yet looked up."""

from seatheld.faults import TextFault

MOST_PARTIES = 8
MOST_SEATS = 8
MOST_STATES = 64
MOST_BRANCHES = 8
MOST_RANGES = 4
MOST_HANDED = 2
MOST_TEXT_BYTES = 255


# All names are tokens, since a fault found later still needs their places; seats are pairs of a
# seat's name and its holder's.
class Draft:
    def __init__(self, title, parties, seats, start, states):
        self.title = title
        self.parties = parties
        self.seats = seats
        self.start = start
        self.states = states


# kind is "end", "both" or "talk"; what a kind does not have stays empty.
class StateDraft:
    def __init__(self, name, kind):
        self.name = name
        self.kind = kind
        self.sides = []
        self.sender = None
        self.receiver = None
        self.branches = []


# ranges are texts in the one form: nothing but that form needs them.
class BranchDraft:
    def __init__(self, label, ranges, handed, target):
        self.label = label
        self.ranges = ranges
        self.handed = handed
        self.target = target


class Reader:
    def __init__(self, tokens):
        self.tokens = tokens
        self.at = 0

    def here(self):
        return self.tokens[self.at]

    def sees(self, word):
        return self.here().kind == "fixed" and self.here().word == word

    def sees_kind(self, kind):
        return self.here().kind == kind

    def take(self):
        token = self.here()
        self.at += 1
        return token

    def take_fixed(self, word):
        if not self.sees(word):
            raise TextFault(3, self.here().place)
        return self.take()

    def take_kind(self, kind):
        if not self.sees_kind(kind):
            raise TextFault(3, self.here().place)
        return self.take()

    # A thing too many is code 4 only where its first token would be allowed, so that is asked first.
    def take_counted_name(self, before, most):
        if not self.sees_kind("name"):
            raise TextFault(3, self.here().place)
        self.check_room(before, most)
        return self.take()

    def check_room(self, before, most):
        if before == most:
            raise TextFault(4, self.here().place)


def read_draft(tokens):
    reader = Reader(tokens)
    reader.take_fixed("script")
    title = reader.take_kind("name")
    reader.take_fixed("parties")
    parties = read_parties(reader)
    seats = read_seats(reader)
    reader.take_fixed("start")
    start = reader.take_kind("name")
    return Draft(title, parties, seats, start, read_states(reader))


def read_parties(reader):
    parties = [reader.take_kind("name")]
    while reader.sees_kind("name"):
        parties.append(reader.take_counted_name(len(parties), MOST_PARTIES))
    return parties


def read_seats(reader):
    seats = []
    while reader.sees("seat"):
        reader.check_room(len(seats), MOST_SEATS)
        reader.take()
        name = reader.take_kind("name")
        reader.take_fixed("of")
        seats.append((name, reader.take_kind("name")))
    return seats


def read_states(reader):
    states = [read_state(reader, 0)]
    while not reader.sees_kind("close"):
        states.append(read_state(reader, len(states)))
    return states


def read_state(reader, before):
    name = reader.take_counted_name(before, MOST_STATES)
    reader.take_fixed("=")
    if reader.sees("end"):
        reader.take()
        return StateDraft(name, "end")
    if reader.sees("both"):
        return read_both(reader, name)
    return read_talk(reader, name)


def read_both(reader, name):
    state = StateDraft(name, "both")
    reader.take()
    state.sides.append(reader.take_kind("name"))
    state.sides.append(reader.take_kind("name"))
    return state


def read_talk(reader, name):
    state = StateDraft(name, "talk")
    state.sender = reader.take_kind("name")
    reader.take_fixed("->")
    state.receiver = reader.take_kind("name")
    reader.take_fixed("{")
    state.branches.append(read_branch(reader, 0))
    while reader.sees(";"):
        reader.take()
        state.branches.append(read_branch(reader, len(state.branches)))
    reader.take_fixed("}")
    return state


def read_branch(reader, before):
    label = reader.take_counted_name(before, MOST_BRANCHES)
    ranges = read_ranges(reader)
    handed = read_handed(reader)
    return BranchDraft(label, ranges, handed, reader.take_kind("name"))


def read_ranges(reader):
    reader.take_fixed("(")
    ranges = []
    if not reader.sees(")"):
        ranges.append(read_range(reader, 0))
        while reader.sees(","):
            reader.take()
            ranges.append(read_range(reader, len(ranges)))
    reader.take_fixed(")")
    return ranges


def read_range(reader, before):
    if not (reader.sees("flag") or reader.sees("num") or reader.sees("text")):
        raise TextFault(3, reader.here().place)
    reader.check_room(before, MOST_RANGES)
    word = reader.take().word
    if word == "num":
        return read_num(reader)
    if word == "text":
        return read_text(reader)
    return word


def read_num(reader):
    low = reader.take_kind("number")
    high = reader.take_kind("number")
    if int(high.word) < int(low.word):
        raise TextFault(7, high.place)
    return " ".join(["num", low.word, high.word])


def read_text(reader):
    most = reader.take_kind("number")
    if not 0 <= int(most.word) <= MOST_TEXT_BYTES:
        raise TextFault(7, most.place)
    return " ".join(["text", most.word])


def read_handed(reader):
    handed = []
    if reader.sees("["):
        reader.take()
        handed.append(reader.take_kind("name"))
        while reader.sees(","):
            reader.take()
            handed.append(reader.take_counted_name(len(handed), MOST_HANDED))
        reader.take_fixed("]")
    return handed
