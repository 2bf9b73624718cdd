"""Runs from their beginning: the state behind so many steps, their notes, and how many steps there are."""
from retrace.errors import NoStep
from retrace.machine import WORD
from retrace.values import is_whole

MOST_STEPS = 2000


def state_at(machine, steps):
    check_steps(steps)
    state = machine.first()
    for done in range(steps):
        state, note = machine.step(state)
    return state


def notes(machine, steps):
    check_steps(steps)
    told = []
    state = machine.first()
    for done in range(steps):
        state, note = machine.step(state)
        told.append(note)
    return told


def run_length(machine, most=2000):
    check_steps(most)
    state = machine.first()
    steps = 0
    while steps < most and state[WORD] == "on":
        state, note = machine.step(state)
        steps += 1
    return steps


def check_steps(steps):
    if not is_whole(steps, 0, MOST_STEPS):
        raise NoStep("steps are a whole number from 0 to 2000")
