"""Programs and worlds, made of whatever things, or refused."""
from retrace.errors import NoProgram, NoRow, NoWorld, TooLong
from retrace.nodes import has_word, row_kinds
from retrace.numbers import rows_of
from retrace.values import is_name, is_number, is_value

MOST_BOXES = 6
MOST_LISTS = 3
MOST_THINGS = 12
MOST_FUNCTIONS = 4
MOST_NAMES = 3
DEEPEST_ROW = 5
MOST_NUMBERS = 60
MOST_DOORS = 5
MOST_ANSWERS = 40


class Scope:
    """What the rows of one function, or the program's own, may name, and whether a return may stand there."""

    def __init__(self, boxes, lists, param_counts, may_return):
        self.boxes = boxes
        self.lists = lists
        self.param_counts = param_counts
        self.may_return = may_return


def program_of(boxes, lists, functions, rows):
    check_variables(boxes, lists)
    check_functions(functions, names_of(boxes) + names_of(lists))
    if not isinstance(rows, tuple):
        raise NoProgram("the program's rows are no tuple")
    program = (boxes, lists, functions, rows)
    check_rows(program)
    # Counted last: only now is it sure that all rows can be walked.
    if len(rows_of(program)) > MOST_NUMBERS:
        raise TooLong("the program has more than 60 numbers")
    return program


def world_of(pairs):
    if not is_tuple_of(pairs, MOST_DOORS, is_answer):
        raise NoWorld("a world is a tuple of 0 to 5 pairs of a door and its numbers")
    doors = names_of(pairs)
    # Rising and each once is the same as just this order.
    if doors != sorted(set(doors)):
        raise NoWorld("the doors don't rise")
    return pairs


def check_variables(boxes, lists):
    if not is_tuple_of(boxes, MOST_BOXES, is_box):
        raise NoProgram("boxes are a tuple of 0 to 6 pairs of a name and a number")
    if not is_tuple_of(lists, MOST_LISTS, is_list):
        raise NoProgram("lists are a tuple of 0 to 3 pairs of a name and a tuple of 0 to 12 numbers")
    if not are_unlike(names_of(boxes) + names_of(lists)):
        raise NoProgram("two boxes or lists have one name")


def check_functions(functions, taken):
    if not is_tuple_of(functions, MOST_FUNCTIONS, is_function):
        raise NoProgram("functions are a tuple of 0 to 4 tuples of a name, params, owns and rows")
    if not are_unlike(names_of(functions)):
        raise NoProgram("two functions have one name")
    for function in functions:
        if not are_unlike(taken + own_names(function)):
            raise NoProgram("a param or an own has another one's name, or a box's or a list's")


def check_rows(program):
    boxes, lists, functions, rows = program
    param_counts = dict([(function[0], len(function[1])) for function in functions])
    for function in functions:
        scope = Scope(names_of(boxes) + own_names(function), names_of(lists), param_counts, True)
        if not are_rows(function[3], scope, 1):
            raise NoRow("a row of a function is none")
    if not are_rows(rows, Scope(names_of(boxes), names_of(lists), param_counts, False), 1):
        raise NoRow("a row of the program is none")


def is_tuple_of(thing, most, is_one):
    return isinstance(thing, tuple) and len(thing) <= most and all([is_one(part) for part in thing])


def is_pair(thing):
    return isinstance(thing, tuple) and len(thing) == 2


def is_box(thing):
    return is_pair(thing) and is_name(thing[0]) and is_number(thing[1])


def is_list(thing):
    return is_pair(thing) and is_name(thing[0]) and is_tuple_of(thing[1], MOST_THINGS, is_number)


def is_answer(thing):
    return is_pair(thing) and is_name(thing[0]) and is_tuple_of(thing[1], MOST_ANSWERS, is_number)


def is_function(thing):
    if not isinstance(thing, tuple) or len(thing) != 4 or not is_name(thing[0]):
        return False
    if not is_tuple_of(thing[1], MOST_NAMES, is_name) or not is_tuple_of(thing[2], MOST_NAMES, is_name):
        return False
    return isinstance(thing[3], tuple)


def names_of(things):
    return [thing[0] for thing in things]


def own_names(function):
    return list(function[1]) + list(function[2])


def are_unlike(names):
    return len(set(names)) == len(names)


def are_rows(rows, scope, depth):
    if not isinstance(rows, tuple):
        return False
    # The first one that is none ends the walk, however many others stand beside and within it.
    for row in rows:
        if not is_row(row, scope, depth):
            return False
    return True


def is_row(row, scope, depth):
    # The depth bounds the walk: a row of thousands within one another is left at the sixth.
    if depth > DEEPEST_ROW or not has_word(row):
        return False
    kinds = row_kinds(row[0])
    if kinds is None or len(row) != 1 + len(kinds):
        return False
    if row[0] == "return" and not scope.may_return:
        return False
    if not all([is_row_part(kind, part, scope, depth) for kind, part in zip(kinds, row[1:])]):
        return False
    return row[0] != "call" or len(row[3]) == scope.param_counts[row[2]]


def is_row_part(kind, part, scope, depth):
    if kind == "rows":
        return are_rows(part, scope, depth + 1)
    if kind == "value":
        return is_value(part, scope.boxes, scope.lists)
    if kind == "values":
        return isinstance(part, tuple) and all([is_value(one, scope.boxes, scope.lists) for one in part])
    # A name is asked for first: a thing of another kind may call itself the same as any name.
    if not is_name(part):
        return False
    if kind == "box":
        return part in scope.boxes
    if kind == "list":
        return part in scope.lists
    if kind == "function":
        return part in scope.param_counts
    return kind == "door"
