"""Writes a script's one form."""


def one_form(draft):
    lines = [
        row_of(["script", draft.title.word]),
        row_of(["parties"] + words_of(draft.parties)),
    ]
    for name, holder in draft.seats:
        lines.append(row_of(["seat", name.word, "of", holder.word]))
    lines.append(row_of(["start", draft.start.word]))
    for state in draft.states:
        lines.append(row_of([state.name.word, "="] + state_words(state)))
    return "".join(lines)


def row_of(words):
    return " ".join(words) + "\n"


def words_of(tokens):
    return [token.word for token in tokens]


def state_words(state):
    if state.kind == "end":
        return ["end"]
    if state.kind == "both":
        return ["both"] + words_of(state.sides)
    branches = " ; ".join([branch_form(branch) for branch in state.branches])
    return [state.sender.word, "->", state.receiver.word, "{", branches, "}"]


def branch_form(branch):
    form = branch.label.word + "(" + ", ".join(branch.ranges) + ")"
    if len(branch.handed) > 0:
        form += "[" + ", ".join(words_of(branch.handed)) + "]"
    return form + " " + branch.target.word
