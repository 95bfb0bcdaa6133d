"""Reads a text as a script, or finds the one fault for which it is none."""

from seatheld.faults import TextFault
from seatheld.grammar import read_draft
from seatheld.naming import script_of
from seatheld.oneform import one_form
from seatheld.tokens import tokens_of

MOST_BYTES = 4096


def read_script(text):
    if len(text) > MOST_BYTES:
        raise TextFault(1, MOST_BYTES)
    draft = read_draft(tokens_of(text))
    script = script_of(draft)
    check_sides_apart(draft, script)
    if len(one_form(draft)) > MOST_BYTES:
        raise TextFault(10, 0)
    return script


def check_sides_apart(draft, script):
    for number, state in enumerate(script.states):
        if state.kind == "both" and share_a_state(script, state.sides):
            raise TextFault(11, draft.states[number].name.place)


def share_a_state(script, sides):
    second = script.reaches[sides[1]]
    return any([number in second for number in script.reaches[sides[0]]])
