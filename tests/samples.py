"""What several tests share: things of other kinds, rows of each form, programs, and how refusals are asked for."""
import random
import unittest

from retrace.errors import RunError
from retrace.numbers import doors_of, rows_of


class LikeAll:
    """A thing that calls itself the same as anything, and can't be a key."""

    __hash__ = None

    def __eq__(self, other):
        return True


class LikeNothing:
    """A thing that can't even be compared."""

    __hash__ = None

    def __eq__(self, other):
        raise RuntimeError("not to be compared")


# Right in no place of a program or a world; the empty tuple is not among them.
WRONG_EVERYWHERE = (
    None, True, False, -1, 1000000, 1.0, 1j, b"a", "", "A", "abcdefg", "a b", [], ["a"], [("number", 1)], {}, {"a": 1},
    {"a"}, frozenset(), (None,), ((), ()), ("Number",), object(), int, len, range(3), ..., LikeAll(), LikeNothing(),
    float("nan"),
)
OTHER_KINDS = (
    None, True, False, 0.0, 1.0, 1j, b"a", b"", [], ["a"], [1], (), ("a",), (1,), {}, {"a": 1}, {"a"}, frozenset(),
    object(), int, str, len, range(3), ..., LikeAll(), LikeNothing(), float("nan"), float("inf"), bytearray(b"a"),
)

ONE = ("number", 1)
BOXES = (("a", 0), ("b", 999999))
LISTS = (("l", (1, 2, 3)), ("m", ()))
NO_PARAMS = ("f", (), (), ())
TWO_PARAMS = ("g", ("p", "q"), ("o",), ())
FUNCTIONS = (NO_PARAMS, TWO_PARAMS)
SET = ("set", "a", ONE)
TELL = ("tell", ("box", "a"))
RETURN = ("return", ONE)
NOTHING = ((), (), (), ())

TWO_VALUES = ("plus", "minus", "times", "over", "rest", "less", "same")
VALUES = (("number", 0), ("number", 999999), ("box", "b"), ("size", "l"), ("not", ONE), ("item", "m", ("box", "a"))) + tuple(
    [(word, ("box", "a"), ("number", 7)) for word in TWO_VALUES])
PLAIN_ROWS = (
    SET, ("push", "l", ONE), ("pop", "b", "m"), ("put", "l", ONE, ("box", "b")), ("ask", "a", "door"), TELL, ("fail", ONE),
    ("call", "a", "f", ()), ("call", "b", "g", (ONE, ("size", "m"))),
)
ROUND_ROWS = (
    ("if", ONE, (), ()), ("if", ONE, (SET,), ()), ("if", ONE, (), (SET, TELL)), ("if", ONE, (TELL,), (SET,)),
    ("while", ONE, ()), ("while", ("box", "a"), (SET, TELL)),
    ("try", (), "a", ()), ("try", (SET,), "b", ()), ("try", (), "a", (TELL,)), ("try", (TELL, SET), "b", (SET,)),
)
EACH_ROW = PLAIN_ROWS + ROUND_ROWS


def around(rows):
    """The rows in each place where rows may stand within a row."""
    return [("if", ONE, rows, ()), ("if", ONE, (SET,), rows), ("while", ONE, rows), ("try", rows, "a", (SET,)),
            ("try", (), "b", rows)]


def function(rows, params=("x",), owns=("y",), name="h"):
    return (name, params, owns, rows)


def with_rows(rows):
    """The parts of a program with the rows in it, first as its own, then as a function's."""
    return [(BOXES, LISTS, FUNCTIONS, rows), (BOXES, LISTS, FUNCTIONS + (function(rows),), (SET,))]


def nested_row(depth, place=0, innermost=SET):
    """A row that is just so deep, each within the other by the place that around tells."""
    row = innermost
    for _ in range(depth - 1):
        row = around((row,))[place]
    return row


def nested_value(depth):
    value = ONE
    for _ in range(depth - 1):
        value = ("not", value)
    return value


class Refusing(unittest.TestCase):
    def refused(self, error, made, *things):
        """Refused with just this class. What is handed in is not shown: it may be too deep for that."""
        try:
            made(*things)
        except RunError as found:
            self.assertIs(type(found), error)
            self.assertIsInstance(found, ValueError)
        else:
            self.fail("nothing was refused")

    def same(self, found, expected):
        """The same of the very same kinds: a truth is no number, a list no tuple."""
        self.assertEqual(found, expected)
        self.assertEqual(repr(found), repr(expected))


class Maker:
    """Makes programs by chance, but the same ones in every run."""

    def __init__(self, seed):
        self.chance = random.Random(seed)

    def name(self):
        return "".join(self.chance.choices("abcdxyz", k=self.chance.randint(1, 6)))

    def names(self, count, taken):
        made = []
        while len(made) < count:
            name = self.name()
            if name not in made and name not in taken:
                made.append(name)
        return made

    def number(self):
        return self.chance.choice((0, 1, 7, 10, 99, 123456, 999999))

    def numbers(self, most):
        return tuple([self.number() for _ in range(self.chance.randint(0, most))])

    def value(self, boxes, lists, depth=4):
        words = ["number"] + ["box"] * len(boxes) + ["size"] * len(lists)
        if depth > 1:
            words += TWO_VALUES + ("not",) + ("item",) * len(lists)
        word = self.chance.choice(words)
        if word == "number":
            return (word, self.number())
        if word == "box":
            return (word, self.chance.choice(boxes))
        if word == "size":
            return (word, self.chance.choice(lists))
        if word == "item":
            return (word, self.chance.choice(lists), self.value(boxes, lists, depth - 1))
        return (word,) + tuple([self.value(boxes, lists, depth - 1) for _ in range(1 if word == "not" else 2)])

    def words(self, boxes, lists, functions, returns):
        words = ["tell", "fail", "if", "while"] + ["return"] * returns
        words += ["set", "ask", "try"] * (len(boxes) > 0) + ["push", "put"] * (len(lists) > 0)
        return words + ["pop"] * (len(boxes) * len(lists) > 0) + ["call"] * (len(boxes) * len(functions) > 0)

    def row(self, boxes, lists, functions, returns, depth):
        pick = self.chance.choice

        def value():
            return self.value(boxes, lists)

        def rows():
            return self.rows(boxes, lists, functions, returns, depth + 1) if depth < 5 else ()

        word = pick(self.words(boxes, lists, functions, returns))
        if word in ("tell", "fail", "return"):
            return (word, value())
        if word == "if":
            return (word, value(), rows(), rows())
        if word == "while":
            return (word, value(), rows())
        if word == "try":
            return (word, rows(), pick(boxes), rows())
        if word == "set":
            return (word, pick(boxes), value())
        if word == "ask":
            return (word, pick(boxes), self.name())
        if word == "push":
            return (word, pick(lists), value())
        if word == "put":
            return (word, pick(lists), value(), value())
        if word == "pop":
            return (word, pick(boxes), pick(lists))
        name, count = pick(functions)
        return (word, pick(boxes), name, tuple([value() for _ in range(count)]))

    def rows(self, boxes, lists, functions, returns, depth=1):
        count = self.chance.choice((0, 1, 1, 2))
        return tuple([self.row(boxes, lists, functions, returns, depth) for _ in range(count)])

    def program(self):
        boxes = self.names(self.chance.randint(0, 6), ())
        lists = self.names(self.chance.randint(0, 3), boxes)
        heads = []
        for name in self.names(self.chance.randint(0, 4), ()):
            own = self.names(self.chance.randint(0, 6), boxes + lists)
            heads.append((name, own[:len(own) // 2], own[len(own) // 2:]))
        counts = [(name, len(params)) for name, params, owns in heads]
        functions = [(name, tuple(params), tuple(owns), self.rows(boxes + params + owns, lists, counts, True))
                     for name, params, owns in heads]
        return (tuple([(name, self.number()) for name in boxes]), tuple([(name, self.numbers(12)) for name in lists]),
                tuple(functions), self.rows(boxes, lists, counts, False))


class Lively(Maker):
    """Makes programs whose runs call, catch and go round more often, and worlds for them."""

    def number(self):
        return self.chance.choice((0, 1, 1, 2, 2, 3, 11, 999999))

    def value(self, boxes, lists, depth=None):
        return super().value(boxes, lists, self.chance.choice((1, 1, 2, 3)) if depth is None else depth)

    def words(self, boxes, lists, functions, returns):
        words = super().words(boxes, lists, functions, returns)
        return words + [word for word in words if word in ("try", "call", "if", "set", "push")] * 2

    def rows(self, boxes, lists, functions, returns, depth=1):
        count = self.chance.choice((2, 3, 4)) if depth == 1 else self.chance.choice((0, 1, 1, 2))
        return tuple([self.row(boxes, lists, functions, returns, depth) for _ in range(count)])

    def program(self):
        """The first one that isn't too long."""
        while True:
            program = super().program()
            if len(rows_of(program)) <= 60:
                return program

    def world(self, program):
        """Answers at some of the program's doors, and at one that it doesn't name."""
        doors = self.chance.sample(doors_of(program), k=min(4, len(doors_of(program)))) + ["unasked"[:6]]
        return tuple([(door, self.numbers(3)) for door in sorted(set(doors))])
