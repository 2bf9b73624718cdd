"""What stays the same in all steps of a run: where names stand in its states, and which row comes behind which."""
from retrace.nodes import parts_within
from retrace.numbers import NO_ROW, doors_of, rows_of
from retrace.programs import names_of, own_names

# The program's own frame names no function.
NO_FUNCTION = ""


class Plan:
    """Where a program's names stand in a state, what its world answers, and the paths of its rows."""

    def __init__(self, program, world):
        self.box_places = places(names_of(program[0]))
        self.list_places = places(names_of(program[1]))
        self.own_places = dict([(function[0], places(own_names(function))) for function in program[2]])
        self.own_places[NO_FUNCTION] = {}
        self.door_places = places(doors_of(program))
        self.door_numbers = {} if world is None else dict(world)
        self.paths = Paths(rows_of(program))

    def answer(self, door, place):
        numbers = self.door_numbers.get(door, ())
        return numbers[place] if place < len(numbers) else 0


class Paths:
    """By rows' numbers: the rows, what comes behind each, where its first and second rows begin, which try catches.

    A try is never where a path leads to: its first rows are, or what is behind them.
    """

    def __init__(self, triples):
        self.rows = [row for number, row, around in triples]
        self.within = {}
        self.behind = {}
        self.firsts = {}
        self.seconds = {}
        self.catchers = {}
        self.defs = {}
        self.starts = {}
        for number, row, around in triples:
            if row[0] == "def":
                self.defs[row[1]] = number
            else:
                self.within.setdefault(around, []).append(number)
        for name in self.defs:
            self.starts[name] = self.lay_rows(self.within.get(self.defs[name], []), NO_ROW, NO_ROW)
        self.starts[NO_FUNCTION] = self.lay_rows(self.within.get(NO_ROW, []), NO_ROW, NO_ROW)

    def lay_rows(self, numbers, behind, catcher):
        """Tells where rows that stand together begin; of no rows that is what is behind them."""
        for number in reversed(numbers):
            self.behind[number] = behind
            self.catchers[number] = catcher
            behind = self.lay_row(number, behind, catcher)
        return behind

    def lay_row(self, number, behind, catcher):
        row = self.rows[number]
        parts = parts_within(row)
        if len(parts) == 0:
            return number
        within = self.within.get(number, [])
        firsts = within[:len(parts[0])]
        seconds = within[len(parts[0]):]
        if row[0] == "while":
            self.firsts[number] = self.lay_rows(firsts, number, catcher)
            return number
        self.seconds[number] = self.lay_rows(seconds, behind, catcher)
        if row[0] == "if":
            self.firsts[number] = self.lay_rows(firsts, behind, catcher)
            return number
        return self.lay_rows(firsts, behind, number)


def places(names):
    return dict([(name, place) for place, name in enumerate(names)])
