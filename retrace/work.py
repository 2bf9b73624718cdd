"""The work of one step: a state's cells read and written, and values reckoned of them."""
from retrace.numbers import NO_ROW

BEYOND = 1000000
BY_NOTHING = 1
NO_PLACE = 2


class Fault(Exception):
    """Ends what a row does, with the fault's number. No refusal: the step is done all the same."""

    def __init__(self, number):
        self.number = number


class Work:
    """A state while a step changes it, and the cells that this step reads and writes."""

    def __init__(self, plan, state):
        self.plan = plan
        self.boxes = state[0]
        self.lists = state[1]
        self.frames = state[2]
        self.asked = state[3]
        self.told = state[4]
        self.broken = False
        # By the cells, so that each is there once.
        self.reads = {}
        self.wrote = {}

    def state(self):
        word = "broken" if self.broken else word_by(self.frames)
        return (self.boxes, self.lists, self.frames, self.asked, self.told, word)

    def point(self):
        return self.frames[-1][2]

    def move(self, point):
        function, numbers, left = self.frames[-1]
        self.frames = self.frames[:-1] + ((function, numbers, point),)

    def leave(self):
        self.frames = self.frames[:-1]

    def enter(self, function, values):
        names = self.plan.own_places[function]
        # The params come first, so what is left without a value are the owns.
        numbers = tuple(values) + (0,) * (len(names) - len(values))
        self.frames = self.frames + ((function, numbers, self.plan.paths.starts[function]),)
        for name in names:
            self.wrote[self.box_cell(name)] = True

    def box_cell(self, name):
        depth = len(self.frames) - 1
        if name in self.plan.own_places[self.frames[depth][0]]:
            return ("own", depth, name)
        return ("box", name)

    def read_box(self, name):
        cell = self.box_cell(name)
        self.reads[cell] = True
        if cell[0] == "box":
            return self.boxes[self.plan.box_places[name]]
        function, numbers, point = self.frames[-1]
        return numbers[self.plan.own_places[function][name]]

    def write_box(self, name, number):
        cell = self.box_cell(name)
        self.wrote[cell] = True
        if cell[0] == "box":
            self.boxes = replaced(self.boxes, self.plan.box_places[name], number)
        else:
            function, numbers, point = self.frames[-1]
            numbers = replaced(numbers, self.plan.own_places[function][name], number)
            self.frames = self.frames[:-1] + ((function, numbers, point),)

    def read_list(self, name):
        self.reads[("list", name)] = True
        return self.lists[self.plan.list_places[name]]

    def write_list(self, name, things):
        self.wrote[("list", name)] = True
        self.lists = replaced(self.lists, self.plan.list_places[name], things)

    def ask(self, door):
        place = self.plan.door_places[door]
        asked_before = self.asked[place]
        self.asked = replaced(self.asked, place, asked_before + 1)
        return self.plan.answer(door, asked_before)


def word_by(frames):
    if len(frames) == 1 and frames[0][2] == NO_ROW:
        return "done"
    return "on"


def replaced(things, place, thing):
    return things[:place] + (thing,) + things[place + 1:]


def plus(one, other):
    return (one + other) % BEYOND


def minus(one, other):
    return (one - other) % BEYOND


def times(one, other):
    return one * other % BEYOND


def over(one, other):
    if other == 0:
        raise Fault(BY_NOTHING)
    return one // other


def rest(one, other):
    if other == 0:
        raise Fault(BY_NOTHING)
    return one % other


def less(one, other):
    return 1 if one < other else 0


def same(one, other):
    return 1 if one == other else 0


OF_TWO = {"plus": plus, "minus": minus, "times": times, "over": over, "rest": rest, "less": less, "same": same}


def reckoned(work, value):
    word = value[0]
    if word == "number":
        return value[1]
    if word == "box":
        return work.read_box(value[1])
    if word == "size":
        return len(work.read_list(value[1]))
    if word == "item":
        return item(work, value)
    one = reckoned(work, value[1])
    if word == "not":
        return same(one, 0)
    return OF_TWO[word](one, reckoned(work, value[2]))


def item(work, value):
    # The place first: where it meets a fault, the list is not read.
    place = reckoned(work, value[2])
    things = work.read_list(value[1])
    check_place(things, place)
    return things[place]


def check_place(things, place):
    if place >= len(things):
        raise Fault(NO_PLACE)
