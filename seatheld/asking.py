"""The answers about a settled script, and about the seats that matter in any script."""

from seatheld.settling import workers_acting, workers_talking

NO_SUCH_THING = -2
NOT_REACHED = -4
DOES_NOT_MATTER = -5
NO_TALK = -6


def counted(numbers):
    return [len(numbers)] + numbers


def has_state(study, number):
    return 0 <= number < len(study.script.states)


def is_reached(study, number):
    return number in study.script.reaches[study.script.start]


# 0 where the state is there and can be reached from the start.
def state_refusal(study, number):
    if not has_state(study, number):
        return NO_SUCH_THING
    if not is_reached(study, number):
        return NOT_REACHED
    return 0


def ask_holder(study, number, seat):
    if not 0 <= seat < len(study.script.holders):
        return [NO_SUCH_THING]
    refusal = state_refusal(study, number)
    if refusal != 0:
        return [refusal]
    if seat not in study.mattering[number]:
        return [DOES_NOT_MATTER]
    return [study.maps[number][seat]]


def ask_matters(study, number):
    if not has_state(study, number):
        return [NO_SUCH_THING]
    return counted(study.mattering[number])


def ask_acts(study, number):
    refusal = state_refusal(study, number)
    if refusal != 0:
        return [refusal]
    return counted(workers_acting(study, number))


def ask_doers(study, number):
    refusal = state_refusal(study, number)
    if refusal != 0:
        return [refusal]
    workers = workers_talking(study, number)
    return workers if len(workers) > 0 else [NO_TALK]


def ask_moves(study, number, step):
    refusal = state_refusal(study, number)
    if refusal != 0:
        return [refusal]
    branches = study.script.states[number].branches
    if not 0 <= step < len(branches):
        return [NO_SUCH_THING]
    answer = [len(branches[step].handed)]
    for seat in branches[step].handed:
        answer.append(seat)
        answer.extend(workers_talking(study, number))
    return answer


def ask_beside(study, number):
    refusal = state_refusal(study, number)
    if refusal != 0:
        return [refusal]
    talks = {}
    for both in study.script.reaches[study.script.start]:
        for at in reached_across(study.script, both, number):
            if study.script.states[at].kind == "talk":
                talks[at] = True
    return counted(sorted(talks))


# What is reached from one side of a both while the given state is reached from the other.
def reached_across(script, both, number):
    sides = script.states[both].sides
    if len(sides) == 0:
        return []
    first = script.reaches[sides[0]]
    second = script.reaches[sides[1]]
    if number in first:
        return second
    if number in second:
        return first
    return []
