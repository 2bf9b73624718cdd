"""Another machine, only to be held beside the package's own: it walks the rows themselves, as they stand in one another.

A row that comes is where the walk rests (a yield); a call is a walk within the walk; a fault, and a return, are raised
through it. So nothing here reckons what comes behind a row, or which try catches.
"""
PARTS = {"if": (2, 3), "while": (2,), "try": (1, 3)}


class Met(Exception):
    """A fault."""


class Back(Exception):
    """A return."""


class Node:
    """A row with its number, and the nodes of the rows within it."""

    def __init__(self, row, numbers):
        self.row = row
        self.number = next(numbers)
        self.parts = [[Node(one, numbers) for one in row[place]] for place in PARTS.get(row[0], ())]


class Frame:
    def __init__(self, function, cells, depth, caller):
        self.function = function
        self.cells = cells
        self.depth = depth
        self.caller = caller
        self.point = None


class Model:
    def __init__(self, program, world=None):
        numbers = iter(range(10 ** 6))
        self.boxes = dict(program[0])
        self.lists = {name: list(things) for name, things in program[1]}
        self.functions = {}
        for name, params, owns, rows in program[2]:
            number = next(numbers)
            self.functions[name] = (number, params, owns, [Node(row, numbers) for row in rows])
        self.nodes = [Node(row, numbers) for row in program[3]]
        self.frames = [Frame("", {}, 0, -1)]
        self.answers = {door: list(told) for door, told in world or ()}
        self.asked = {}
        for nodes in [self.nodes] + [function[3] for function in self.functions.values()]:
            self.find_doors(nodes)
        self.told = []

    def find_doors(self, nodes):
        for node in nodes:
            if node.row[0] == "ask":
                self.asked[node.row[2]] = 0
            for part in node.parts:
                self.find_doors(part)

    def run(self, most):
        """The states, the first one among them, and the notes of at most so many steps."""
        states, notes = [], []
        walk = self.rows(self.nodes)
        word = "on"
        while word == "on" and len(states) <= most:
            try:
                next(walk)
            except StopIteration:
                self.frames[0].point = -1
                word = "done"
            except Met:
                del self.frames[1:]
                self.end("fault")
                word = "broken"
            states.append(self.state(word))
            if len(states) > 1:
                notes.append(self.note)
        return states, notes

    def state(self, word):
        frames = [(frame.function, tuple(frame.cells.values()), frame.point) for frame in self.frames]
        return (tuple(self.boxes.values()), tuple([tuple(things) for things in self.lists.values()]), tuple(frames),
                tuple([self.asked[door] for door in sorted(self.asked)]), tuple(self.told), word)

    def arrive(self, point):
        self.frames[-1].point = point
        yield

    def begin(self, number):
        self.row, self.caller = number, self.frames[-1].caller
        self.reads, self.wrote = set(), set()

    def end(self, kind, catcher=-1):
        self.note = (self.row, kind, tuple(sorted(self.reads)), tuple(sorted(self.wrote)), self.caller, catcher)

    def cell(self, name):
        frame = self.frames[-1]
        return (frame.cells, ("own", frame.depth, name)) if name in frame.cells else (self.boxes, ("box", name))

    def assign(self, name, number):
        where, cell = self.cell(name)
        self.wrote.add(cell)
        where[name] = number

    def listed(self, name):
        self.reads.add(("list", name))
        return self.lists[name]

    def value(self, value):
        word, *parts = value
        if word == "number":
            return parts[0]
        if word == "box":
            where, cell = self.cell(parts[0])
            self.reads.add(cell)
            return where[parts[0]]
        if word == "size":
            return len(self.listed(parts[0]))
        if word == "item":
            place = self.value(parts[1])
            things = self.listed(parts[0])
            if place not in range(len(things)):
                raise Met(2)
            return things[place]
        numbers = [self.value(part) for part in parts]
        if word == "not":
            return int(not numbers[0])
        one, other = numbers
        if word in ("over", "rest") and not other:
            raise Met(1)
        if word in ("over", "rest"):
            return divmod(one, other)[word == "rest"]
        if word in ("less", "same"):
            return int(one < other if word == "less" else one == other)
        return {"plus": one + other, "minus": one - other + 10 ** 6, "times": one * other}[word] % 10 ** 6

    def rows(self, nodes):
        for node in nodes:
            yield from getattr(self, "do_" + node.row[0], self.plain)(node)

    def plain(self, node):
        yield from self.arrive(node.number)
        self.begin(node.number)
        word, *parts = node.row
        if word == "set":
            self.assign(parts[0], self.value(parts[1]))
        elif word == "push":
            number = self.value(parts[1])
            if len(self.listed(parts[0])) == 12:
                raise Met(3)
            self.wrote.add(("list", parts[0]))
            self.lists[parts[0]].append(number)
        elif word == "pop":
            if not self.listed(parts[1]):
                raise Met(4)
            self.wrote.add(("list", parts[1]))
            self.assign(parts[0], self.lists[parts[1]].pop())
        elif word == "put":
            place, number = self.value(parts[1]), self.value(parts[2])
            if place not in range(len(self.listed(parts[0]))):
                raise Met(2)
            self.wrote.add(("list", parts[0]))
            self.lists[parts[0]][place] = number
        elif word == "ask":
            left = self.answers.get(parts[1])
            self.assign(parts[0], left.pop(0) if left else 0)
            self.asked[parts[1]] += 1
        elif word == "tell":
            self.told.append(self.value(parts[0]))
        elif word == "fail":
            raise Met(self.value(parts[0]))
        elif word == "return":
            raise Back(self.value(parts[0]))
        self.end("plain")

    def do_if(self, node):
        yield from self.arrive(node.number)
        self.begin(node.number)
        number = self.value(node.row[1])
        self.end("plain")
        yield from self.rows(node.parts[0] if number else node.parts[1])

    def do_while(self, node):
        number = 1
        while number:
            yield from self.arrive(node.number)
            self.begin(node.number)
            number = self.value(node.row[1])
            self.end("plain")
            if number:
                yield from self.rows(node.parts[0])

    def do_try(self, node):
        depth = len(self.frames)
        try:
            yield from self.rows(node.parts[0])
            return
        except Met as met:
            del self.frames[depth:]
            self.assign(node.row[2], met.args[0])
            self.end("fault", node.number)
        yield from self.rows(node.parts[1])

    def do_call(self, node):
        yield from self.arrive(node.number)
        self.begin(node.number)
        numbers = [self.value(value) for value in node.row[3]]
        if len(self.frames) == 8:
            raise Met(5)
        number, params, owns, nodes = self.functions[node.row[2]]
        cells = dict(zip(params + owns, numbers + [0, 0, 0]))
        self.frames.append(Frame(node.row[2], cells, len(self.frames), node.number))
        self.wrote.update([("own", len(self.frames) - 1, name) for name in cells])
        self.end("call")
        try:
            yield from self.rows(nodes)
            yield from self.arrive(-1)
            self.begin(number)
            kind, told = "off", 0
        except Back as back:
            kind, told = "return", back.args[0]
        self.frames.pop()
        self.assign(node.row[1], told)
        self.end(kind)
