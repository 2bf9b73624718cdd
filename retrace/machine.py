"""The machine that does a program's steps in a world, one by one."""
from retrace.deeds import catch, do_row
from retrace.errors import NoStep
from retrace.numbers import NO_ROW
from retrace.plans import NO_FUNCTION, Plan
from retrace.work import Fault, Work, word_by

WORD = 5


class Machine:
    """Keeps nothing of a run: what comes is told of a state alone."""

    def __init__(self, program, world=None):
        self.plan = Plan(program, world)
        self.beginning = first_state(program, self.plan)

    def first(self):
        return self.beginning

    def step(self, state):
        if state[WORD] != "on":
            raise NoStep("the run has ended")
        row = self.next_row(state)
        work = Work(self.plan, state)
        catcher = NO_ROW
        try:
            kind = do_row(work, row)
        except Fault as fault:
            kind = "fault"
            catcher = catch(work, fault.number)
        note = (row, kind, cells(work.reads), cells(work.wrote), caller(state), catcher)
        return (work.state(), note)

    def next_row(self, state):
        if state[WORD] != "on":
            return NO_ROW
        function, numbers, point = state[2][-1]
        if point == NO_ROW:
            return self.plan.paths.defs[function]
        return point


def first_state(program, plan):
    boxes = tuple([number for name, number in program[0]])
    lists = tuple([tuple(things) for name, things in program[1]])
    frames = ((NO_FUNCTION, (), plan.paths.starts[NO_FUNCTION]),)
    return (boxes, lists, frames, (0,) * len(plan.door_places), (), word_by(frames))


def cells(found):
    return tuple(sorted(found))


def caller(state):
    frames = state[2]
    return frames[-2][2] if len(frames) > 1 else NO_ROW
