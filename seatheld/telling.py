"""A tale: at which talks a conversation stands, and who holds each seat now."""


class Tale:
    def __init__(self, script):
        self.standing = talks_come_to(script, script.start)
        self.holders = list(script.holders)


# The second side waits below the first, so that what stands by the first comes before it.
def talks_come_to(script, number):
    talks = []
    waiting = [number]
    while len(waiting) > 0:
        at = waiting.pop()
        if script.states[at].kind == "talk":
            talks.append(at)
        for side in reversed(script.states[at].sides):
            waiting.append(side)
    return talks


def count_options(script, tale):
    return sum([len(script.states[at].branches) for at in tale.standing])
