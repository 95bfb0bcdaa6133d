"""A second, slow reading of the document, and scripts made at random (with fixed seeds).

It shares no code with the program.
"""

import random
import re

from tests.helper import as_bytes

WORDS = (
    "script parties seat of start end both flag num text part stop send recv program for def if pick any set go "
    "true false"
).split()
TOKEN = re.compile(
    rb"(?P<name>[A-Za-z][A-Za-z0-9]*)"
    rb"|(?P<number>-?[0-9]+)"
    rb"|(?P<arrow>->|<-)"
    rb"|(?P<quoted>\"(?:[^\"\\\n]|\\[\"\\n]|\\x[0-9a-f][0-9a-f])*\")"
    rb"|(?P<sign>[={}()\[\],;:!?|])"
)
GAP = re.compile(rb"(?:[ \t\n]|#[^\n]*)*")
PIECE = re.compile(rb"\\x..|\\.|[^\\]", re.S)


class Fault(Exception):
    pass


def take_apart(text):
    """Pairs of a token and its place; names are bare, others carry their kind."""
    text = bytes(text)
    found = []
    at = GAP.match(text).end()
    while at < len(text):
        match = TOKEN.match(text, at)
        if match is None:
            raise Fault(2, at)
        kind, word = match.lastgroup, match.group().decode("latin-1")
        if kind == "name":
            bad = len(word) > 16
            kind = "word" if word in WORDS else "name"
        elif kind == "number":
            bad = len(word.lstrip("-")) > 10 or str(int(word)) != word or abs(int(word)) > 10 ** 9
        else:
            bad = kind == "quoted" and len(PIECE.findall(match.group()[1:-1])) > 255
        if bad:
            raise Fault(2, at)
        found.append((kind, word, at))
        at = GAP.match(text, match.end()).end()
    return found + [("close", "", len(text))]


class Parser:
    """A script's tokens, as what may stand next; every choice is told by the first token."""

    def __init__(self, tokens):
        self.tokens = tokens

    def shift(self):
        return self.tokens.pop(0)

    def is_next(self, what):
        kind, word, _ = self.tokens[0]
        if what in ("name", "number", "close"):
            return kind == what
        return kind not in ("name", "quoted") and word == what

    def need(self, *whats):
        if not any(self.is_next(what) for what in whats):
            raise Fault(3, self.tokens[0][2])
        return self.shift()

    def need_of_few(self, things, most, *whats):
        if any(self.is_next(what) for what in whats) and len(things) >= most:
            raise Fault(4, self.tokens[0][2])
        return self.need(*whats)

    def script(self):
        tree = {"parties": [], "seats": [], "states": []}
        self.need("script")
        tree["title"] = self.need("name")
        self.need("parties")
        tree["parties"].append(self.need("name"))
        while True:
            following = self.tokens[0]
            if self.is_next("name"):
                tree["parties"].append(self.need_of_few(tree["parties"], 8, "name"))
            elif self.is_next("seat"):
                break
            else:
                self.need("start")
                self.tokens.insert(0, following)
                break
        while self.is_next("seat"):
            self.need_of_few(tree["seats"], 8, "seat")
            name = self.need("name")
            self.need("of")
            tree["seats"].append((name, self.need("name")))
        self.need("start")
        tree["start"] = self.need("name")
        while not tree["states"] or not self.is_next("close"):
            name = self.need_of_few(tree["states"], 64, "name")
            self.need("=")
            tree["states"].append((name,) + self.body())
        return tree

    def body(self):
        first = self.need("end", "both", "name")
        if first[1] == "end" and first[0] == "word":
            return ("end",)
        if first[1] == "both" and first[0] == "word":
            return ("both", [self.need("name"), self.need("name")])
        self.need("->")
        receiver = self.need("name")
        self.need("{")
        branches = [self.branch([])]
        while self.need(";", "}")[1] == ";":
            branches.append(self.branch(branches))
        return ("talk", first, receiver, branches)

    def branch(self, before):
        label = self.need_of_few(before, 8, "name")
        self.need("(")
        ranges = []
        if self.is_next(")"):
            self.shift()
        else:
            ranges.append(self.range(ranges))
            while self.need(",", ")")[1] == ",":
                ranges.append(self.range(ranges))
        handed = []
        following = self.need("[", "name")
        if following[1] == "[":
            handed.append(self.need("name"))
            while self.need(",", "]")[1] == ",":
                handed.append(self.need_of_few(handed, 2, "name"))
            following = self.need("name")
        return label, ranges, handed, following

    def range(self, before):
        word = self.need_of_few(before, 4, "flag", "num", "text")[1]
        numbers = [self.need("number") for _ in range({"flag": 0, "num": 2, "text": 1}[word])]
        values = [int(number[1]) for number in numbers]
        if word == "num" and values[1] < values[0]:
            raise Fault(7, numbers[1][2])
        if word == "text" and values[0] not in range(256):
            raise Fault(7, numbers[0][2])
        return " ".join([word] + [number[1] for number in numbers])


def check_names(tree):
    parties = []
    for _, word, place in tree["parties"]:
        if word in parties:
            raise Fault(5, place)
        parties.append(word)
    seats = list(parties)
    holders = list(range(len(parties)))
    for (_, word, place), (_, owner, owner_place) in tree["seats"]:
        if word in seats:
            raise Fault(5, place)
        if owner not in parties:
            raise Fault(6, owner_place)
        seats.append(word)
        holders.append(parties.index(owner))
    states = [state[0][1] for state in tree["states"]]

    def find(token, known):
        if token[1] not in known:
            raise Fault(6, token[2])
        return known.index(token[1])

    start = find(tree["start"], states)
    model = []
    for number, state in enumerate(tree["states"]):
        if state[0][1] in states[:number]:
            raise Fault(5, state[0][2])
        if state[1] == "end":
            model.append(("end",))
        elif state[1] == "both":
            model.append(("both", [find(side, states) for side in state[2]]))
        else:
            sender = find(state[2], seats)
            receiver = find(state[3], seats)
            if sender == receiver:
                raise Fault(8, state[3][2])
            labels, branches = [], []
            for label, _, handed, target in state[4]:
                if label[1] in labels:
                    raise Fault(5, label[2])
                labels.append(label[1])
                given = []
                for token in handed:
                    seat = find(token, seats)
                    if seat < len(parties):
                        raise Fault(9, token[2])
                    if seat in given:
                        raise Fault(5, token[2])
                    given.append(seat)
                branches.append((given, find(target, states)))
            model.append(("talk", sender, receiver, branches))
    return {"workers": len(parties), "holders": holders, "start": start, "states": model}


def behind(state):
    if state[0] == "talk":
        return [target for _, target in state[3]]
    return state[1] if state[0] == "both" else []


def met_from(model, number):
    met = [number]
    for at in met:
        for target in behind(model["states"][at]):
            if target not in met:
                met.append(target)
    return met


def form_length(tree):
    rows = [["script", tree["title"][1]], ["parties"] + [token[1] for token in tree["parties"]]]
    rows += [["seat", name[1], "of", owner[1]] for name, owner in tree["seats"]]
    rows.append(["start", tree["start"][1]])
    for state in tree["states"]:
        row = [state[0][1], "="]
        if state[1] == "end":
            row.append("end")
        elif state[1] == "both":
            row += ["both"] + [side[1] for side in state[2]]
        else:
            row += [state[2][1], "->", state[3][1], "{"]
            for number, (label, ranges, handed, target) in enumerate(state[4]):
                brackets = "[%s]" % ", ".join(token[1] for token in handed) if handed else ""
                row += [";"] * (number > 0) + ["%s(%s)%s" % (label[1], ", ".join(ranges), brackets), target[1]]
            row.append("}")
        rows.append(row)
    return sum(len(" ".join(row)) + 1 for row in rows)


def understand(text):
    if len(text) > 4096:
        raise Fault(1, 4096)
    tree = Parser(take_apart(text)).script()
    model = check_names(tree)
    for number, state in enumerate(model["states"]):
        if state[0] == "both":
            first, second = [set(met_from(model, side)) for side in state[1]]
            if first & second:
                raise Fault(11, tree["states"][number][0][2])
    if form_length(tree) > 4096:
        raise Fault(10, 0)
    return model


def seats_of(model, number):
    seats = set()
    for at in met_from(model, number):
        state = model["states"][at]
        if state[0] == "talk":
            seats.update(state[1:3])
            for handed, _ in state[3]:
                seats.update(handed)
    return sorted(seats)


def settle(model):
    """The maps, and the fault as four numbers or None."""
    order = met_from(model, model["start"])
    maps = {model["start"]: tuple(model["holders"])}

    def come(origin, step, target, held):
        first = maps.setdefault(target, held)
        unlike = [seat for seat in seats_of(model, target) if first[seat] != held[seat]]
        return [3, origin, step, unlike[0]] if unlike else None

    for number in order:
        state, held = model["states"][number], maps[number]
        if state[0] == "both":
            for step, side in enumerate(state[1]):
                fault = come(number, step, side, held)
                if fault:
                    return maps, fault
        elif state[0] == "talk":
            sender, receiver = held[state[1]], held[state[2]]
            if sender == receiver:
                return maps, [1, number, 0, sender]
            for step, (handed, target) in enumerate(state[3]):
                lacking = [seat for seat in handed if held[seat] != sender]
                if lacking:
                    return maps, [2, number, step, lacking[0]]
                fault = come(number, step, target, pass_on(held, state, step))
                if fault:
                    return maps, fault
    for number in order:
        state = model["states"][number]
        if state[0] == "both":
            common = set(acting(model, maps, state[1][0])) & set(acting(model, maps, state[1][1]))
            if common:
                return maps, [4, number, 0, min(common)]
    return maps, None


def pass_on(held, state, step):
    return tuple(held[state[2]] if seat in state[3][step][0] else worker for seat, worker in enumerate(held))


def acting(model, maps, number):
    talks = [at for at in met_from(model, number) if model["states"][at][0] == "talk"]
    return sorted({maps[at][seat] for at in talks for seat in model["states"][at][1:3]})


def talks_beside(model, number):
    found = set()
    for at in met_from(model, model["start"]):
        if model["states"][at][0] == "both":
            first, second = [met_from(model, side) for side in model["states"][at][1]]
            found.update(second if number in first else [], first if number in second else [])
    return sorted(at for at in found if model["states"][at][0] == "talk")


# Tales, told by the words.

def come_to(model, number):
    state = model["states"][number]
    if state[0] == "both":
        return come_to(model, state[1][0]) + come_to(model, state[1][1])
    return (number,) if state[0] == "talk" else ()


def tell(model, standing, held, at, step):
    place = standing.index(at)
    state = model["states"][at]
    later = standing[:place] + come_to(model, state[3][step][1]) + standing[place + 1:]
    return later, pass_on(held, state, step)


def tale_moments(model, most=3000):
    """Each (standing, holders) that some tale comes to, up to so many."""
    moments = [(come_to(model, model["start"]), tuple(model["holders"]))]
    known = set(moments)
    for standing, held in moments:
        for at in standing:
            for step in range(len(model["states"][at][3])):
                later = tell(model, standing, held, at, step)
                if later not in known and len(moments) < most:
                    known.add(later)
                    moments.append(later)
    return moments


class Session:
    """All calls on one object, by the words: a tale is its log, and its moments are told anew from it."""

    def __init__(self):
        self.model = None
        self.log = None

    def answer(self, call):
        number, given = call[0], call[1:]
        if number == 0:
            return self.load(given[1:])
        if self.model is None:
            return [-1]
        if number == 1:
            return [0] + self.fault if self.fault else [1]
        if self.fault and number != 3:
            return [-3]
        if number > 8 and self.log is None:
            return [-7]
        if number == 8:
            self.log = []
            self.moments = [(come_to(self.model, self.model["start"]), tuple(self.model["holders"]))]
            return [len(self.options())]
        if number == 11:
            return self.run(given[1:])
        if number in (9, 16):
            things = self.options() if number == 9 else [(at,) for at in self.moments[-1][0]]
            return [len(things)] + [part for thing in things for part in thing]
        return (self.of_states if number < 8 else self.of_tale)(number, *given)

    def load(self, text):
        answer, model = expected_load(text)
        if model is not None:
            self.model, self.log = model, None
            self.maps, self.fault = settle(model)
        return answer

    def of_states(self, call, i, other=0):
        states = self.model["states"]
        if i not in range(len(states)) or (call == 2 and other not in range(len(self.model["holders"]))):
            return [-2]
        seats = seats_of(self.model, i)
        if call == 3:
            return [len(seats)] + seats
        if i not in met_from(self.model, self.model["start"]):
            return [-4]
        if call == 2:
            return [self.maps[i][other] if other in seats else -5]
        doing = [self.maps[i][seat] for seat in states[i][1:3]] if states[i][0] == "talk" else [-6]
        if call == 5:
            return doing
        if call == 6:
            branches = states[i][3] if states[i][0] == "talk" else []
            if other not in range(len(branches)):
                return [-2]
            handed = branches[other][0]
            return [len(handed)] + [part for seat in handed for part in [seat] + doing]
        found = acting(self.model, self.maps, i) if call == 4 else talks_beside(self.model, i)
        return [len(found)] + found

    def of_tale(self, call, number):
        if call == 10:
            return self.say(number)
        count = len(self.model["holders"]) if call in (12, 15) else self.model["workers"]
        if number not in range(count):
            return [-2]
        helds = [held for _, held in self.moments]
        if call == 12:
            return [helds[-1][number]]
        if call == 13:
            found = [seat for seat in range(len(helds[-1])) if helds[-1][seat] == number]
            return [len(found)] + found
        if call == 15:
            workers = [held[number] for held in helds]
            trail = workers[:1] + [new for old, new in zip(workers, workers[1:]) if old != new]
            return [len(trail)] + trail
        done = []
        for (at, step), held in zip(self.log, helds):
            talking = list(self.model["states"][at][1:3])
            done += [[way] + talking + [at, step] for way in (0, 1) if held[talking[way]] == number]
        return [len(done)] + sum(done, [])

    def options(self):
        return [(at, step) for at in self.moments[-1][0] for step in range(len(self.model["states"][at][3]))]

    def say(self, k):
        if k not in range(len(self.options())):
            return [-8]
        if len(self.log) == 1000:
            return [-9]
        at, step = self.options()[k]
        held = self.moments[-1][1]
        talking = list(self.model["states"][at][1:3])
        self.moments.append(tell(self.model, *self.moments[-1], at, step))
        self.log.append((at, step))
        return [held[seat] for seat in talking] + talking + [at, step]

    def run(self, numbers):
        before = len(self.log)
        for number in numbers:
            count = len(self.options())
            if count == 0 or len(self.log) == 1000:
                break
            # The remainder from 0 on, found without the operator that the program uses.
            rest = abs(number) - abs(number) // count * count
            self.say(rest if number >= 0 or rest == 0 else count - rest)
        return [len(self.log) - before]


# Making scripts.

def make_script(chance, lasting=False):
    """A text with few parties and states; the sides of its boths are mostly kept apart.

    A lasting script is nearly always settled, and its tales seldom end soon.
    """
    parties = ["P%d" % number for number in range(chance.randint(2, 6))]
    extras = ["X%d" % number for number in range(chance.randint(0, 4))]
    lines = ["script T", "parties " + " ".join(parties)]
    owners = {party: party for party in parties}
    for extra in extras:
        owners[extra] = chance.choice(parties)
        lines.append("seat %s of %s" % (extra, owners[extra]))
    lines.append("start S0")
    states = []
    grow(chance, states, "S0", parties, owners, ([40], [0], lasting))
    while len(states) > 2 and not lasting and chance.random() < 0.3:
        # A name changed at random makes faults of every sort.
        number = chance.randrange(len(states))
        words = states[number].split(" ")
        words[chance.randrange(len(words))] = chance.choice(parties + extras + ["S0", "S1", "S2", "end", "S9"])
        states[number] = " ".join(words)
    if chance.random() < 0.5:
        states.append("Lost = %s -> %s { m() S0 ; n() Lost }" % (parties[0], parties[1]))
    if chance.random() < 0.3:
        chance.shuffle(states)
    return "\n".join(lines + states) + "\n"


def grow(chance, states, first, parties, owners, setting):
    """Adds a region of states, from its first on, in which just these parties talk."""
    budget, fresh, lasting = setting
    ending, returning, closing_chance, noise = (0.03, 0.6, 0.1, 0) if lasting else (0.1, 0.4, 0.3, 1)
    handing = (0, 1, 1, 2) if lasting else (0, 0, 1, 2)

    def name_new():
        fresh[0] += 1
        return "S%d" % fresh[0]

    owners = dict(owners)
    waiting, region, closing = [(first, dict(owners))], [(first, dict(owners))], None
    while waiting:
        name, held = waiting.pop(0)
        budget[0] -= 1
        seats = [seat for seat in held if held[seat] in parties or chance.random() < 0.02 * noise]
        if len(parties) < 2 or budget[0] < 0 or chance.random() < ending:
            states.append("%s = end" % name)
        elif len(parties) > 3 and chance.random() < 0.25:
            halves = list(parties)
            chance.shuffle(halves)
            cut = chance.randint(2, len(halves) - 2)
            sides = [name_new(), name_new()]
            states.append("%s = both %s %s" % (name, sides[0], sides[1]))
            overlap = halves[:cut + (chance.random() < 0.05 * noise)]
            for side, half in zip(sides, (overlap, halves[cut:])):
                grow(chance, states, side, half, held, setting)
        else:
            sender, receiver = chance.sample(seats, 2)
            for _ in range(8):
                if held[sender] != held[receiver] or chance.random() < 0.02 * noise:
                    break
                sender, receiver = chance.sample(seats, 2)
            branches = []
            for label in "abc"[:chance.randint(1, 3)]:
                extras = [seat for seat in held if seat[0] == "X"]
                mine = [seat for seat in extras if held[seat] == held[sender] or chance.random() < 0.03 * noise]
                handed = chance.sample(mine, min(len(mine), chance.choice(handing)))
                later = dict(held)
                for seat in handed:
                    later[seat] = held[receiver]
                back = [known for known, before in region if before == later or chance.random() < 0.05 * noise]
                if back and chance.random() < returning:
                    target = chance.choice(back)
                elif chance.random() < closing_chance:
                    closing = closing or name_new()
                    target = closing
                else:
                    target = name_new()
                    waiting.append((target, later))
                    region.append((target, later))
                branches.append("%s()%s %s" % (label, "[%s]" % ", ".join(handed) if handed else "", target))
            states.append("%s = %s -> %s { %s }" % (name, sender, receiver, " ; ".join(branches)))
    if closing:
        states.append("%s = end" % closing)


def spoil(chance, text):
    """A text near a script: some tokens or bytes put in, left out or changed."""
    if chance.random() < 0.4:
        # One name in the place of another: the grammar stays well, the names may not.
        places = [match for match in re.finditer(r"\w+", text) if match.group() not in WORDS]
        old, new = chance.choice(places), chance.choice(places)
        return text[:old.start()] + new.group() + text[old.end():]
    for _ in range(chance.randint(1, 3)):
        if chance.random() < 0.7:
            words = re.findall(r"\w+|->|\s+|.", text)
            at = chance.randrange(len(words))
            other = chance.choice(words + WORDS + ["7", "-1", "256", '"x"'] + list("()[],;{}="))
            words[at:at + chance.randint(0, 2)] = [chance.choice(("", " ")) + other] * chance.randint(0, 2)
            text = "".join(words)
        else:
            at = chance.randrange(len(text))
            text = text[:at] + chance.choice('07-<>"#\\@x \n') * chance.randint(0, 2) + text[at + chance.randint(0, 1):]
    return text


def expected_load(text):
    try:
        return [1], understand(as_bytes(text))
    except Fault as fault:
        return [0] + list(fault.args), None


def many_models(seed, count, lasting=False):
    chance = random.Random(seed)
    for _ in range(count):
        text = make_script(chance, lasting)
        answer, model = expected_load(text)
        if model is not None:
            yield text, model
