"""Texts read to programs and worlds, and worlds written as texts."""
from retrace.errors import NoText
from retrace.nodes import head_kinds, row_kinds, value_kinds
from retrace.programs import program_of, world_of
from retrace.texts import lines_text, words_text

MOST_FIGURES = 6

# The order in which the sections of a program's text come.
BOXES = 0
LISTS = 1
FUNCTIONS = 2
ROWS = 3


class Words:
    """The words of one row of text, taken from the left."""

    def __init__(self, words):
        self.words = words
        self.place = 0

    def are_left(self):
        return self.place < len(self.words)

    def take(self):
        if not self.are_left():
            raise NoText("a row lacks words")
        self.place += 1
        return self.words[self.place - 1]

    def take_all(self):
        left = self.words[self.place:]
        self.place = len(self.words)
        return left


class Reader:
    """What is read of a program so far. An opened row is the list of its parts; the last one is a list of rows, and
    what is read goes there."""

    def __init__(self):
        self.section = BOXES
        self.boxes = []
        self.lists = []
        self.functions = []
        self.rows = []
        self.opened = []


def read(text):
    reader = Reader()
    for words in word_rows(text):
        read_line(reader, words)
    if len(reader.opened) > 0:
        raise NoText("an end lacks")
    return program_of(tuple(reader.boxes), tuple(reader.lists), tuple(reader.functions), tuple(reader.rows))


def written_world(world):
    return lines_text([words_text(("answer",) + pair) for pair in world])


def read_world(text):
    return world_of(tuple([read_answer(words) for words in word_rows(text)]))


def word_rows(text):
    """The words of each row that is not passed over. Only the line feed parts rows, only the blank parts words."""
    found = [words_in(line) for line in text.split("\n")]
    return [Words(words) for words in found if len(words) > 0 and not words[0].startswith("#")]


def words_in(line):
    return [word for word in line.split(" ") if word != ""]


def read_answer(words):
    if words.take() != "answer":
        raise NoText("a row of a world begins with answer")
    door = words.take()
    return (door, read_numbers(words))


def read_numbers(words):
    return tuple([number_of(word) for word in words.take_all()])


def number_of(word):
    if len(word) > MOST_FIGURES or not all(["0" <= sign <= "9" for sign in word]):
        raise NoText("a number has one to six figures and nothing else")
    if word.startswith("0") and word != "0":
        raise NoText("a number has no 0 ahead")
    return int(word)


def read_value(words):
    # The opened values are kept in a list, the innermost one last: values are read however deep.
    opened = [opened_value(words)]
    while True:
        parts = opened[-1]
        kinds = value_kinds(parts[0])
        if len(parts) <= len(kinds):
            kind = kinds[len(parts) - 1]
            if kind == "value":
                opened.append(opened_value(words))
            else:
                parts.append(read_word(kind, words))
        else:
            opened.pop()
            if len(opened) == 0:
                return tuple(parts)
            opened[-1].append(tuple(parts))


def opened_value(words):
    word = words.take()
    if value_kinds(word) is None:
        raise NoText("a value begins with another word")
    return [word]


def read_word(kind, words):
    # Any word may be a name here: which names there are is told behind the reading.
    if kind == "number":
        return number_of(words.take())
    return words.take()


def read_part(kind, words):
    if kind == "value":
        return read_value(words)
    if kind == "values":
        values = []
        while words.are_left():
            values.append(read_value(words))
        return tuple(values)
    return read_word(kind, words)


def read_box(reader, words):
    enter(reader, BOXES)
    name = words.take()
    reader.boxes.append((name, number_of(words.take())))


def read_list(reader, words):
    enter(reader, LISTS)
    name = words.take()
    reader.lists.append((name, read_numbers(words)))


def read_def(reader, words):
    enter(reader, FUNCTIONS)
    name = words.take()
    reader.opened.append(["def", name, words.take_all(), [], []])


def read_own(reader, words):
    parts = innermost(reader, "def", 5)
    if len(parts[4]) > 0:
        raise NoText("an own stands behind a row")
    parts[3].append(words.take())


def read_else(reader, words):
    innermost(reader, "if", 3).append([])


def read_catch(reader, words):
    parts = innermost(reader, "try", 2)
    parts.append(words.take())
    parts.append([])


def read_end(reader, words):
    if len(reader.opened) == 0:
        raise NoText("an end has no row that it belongs to")
    parts = reader.opened.pop()
    if parts[0] == "try" and len(parts) == 2:
        raise NoText("a catch lacks")
    if parts[0] == "if" and len(parts) == 3:
        parts.append([])
    row = tuple([tuple(part) if isinstance(part, list) else part for part in parts])
    if row[0] == "def":
        reader.functions.append(row[1:])
    else:
        rows_to_fill(reader).append(row)


def read_row(reader, word, words):
    if row_kinds(word) is None:
        raise NoText("a row begins with another word")
    if len(reader.opened) == 0:
        enter(reader, ROWS)
    kinds = head_kinds(word)
    parts = [word] + [read_part(kind, words) for kind in kinds]
    if kinds == row_kinds(word):
        rows_to_fill(reader).append(tuple(parts))
    else:
        reader.opened.append(parts + [[]])


# What is not told here is a row of the program's or a function's.
LINES = {
    "box": read_box,
    "list": read_list,
    "def": read_def,
    "own": read_own,
    "else": read_else,
    "catch": read_catch,
    "end": read_end,
}


def read_line(reader, words):
    word = words.take()
    if word in LINES:
        LINES[word](reader, words)
    else:
        read_row(reader, word, words)
    if words.are_left():
        raise NoText("a row has more words than it may have")


def enter(reader, section):
    """Begins, or goes on with, a section; none comes behind a later one, or within a row that has no end yet."""
    if len(reader.opened) > 0 or section < reader.section:
        raise NoText("a row stands where it may not")
    reader.section = section


def innermost(reader, word, length):
    """The innermost opened row, which is to be of that word and of so many parts so far."""
    if len(reader.opened) == 0:
        raise NoText("a row stands where it may not")
    parts = reader.opened[-1]
    if parts[0] != word or len(parts) != length:
        raise NoText("a row stands where it may not")
    return parts


def rows_to_fill(reader):
    if len(reader.opened) > 0:
        return reader.opened[-1][-1]
    return reader.rows
