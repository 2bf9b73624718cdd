"""Programs, rows and values written as texts."""
from retrace.nodes import head_kinds

AHEAD = "  "


def written(program):
    boxes, lists, functions, rows = program
    lines = [words_text(("box",) + box) for box in boxes]
    lines.extend([words_text(("list",) + one) for one in lists])
    for function in functions:
        add_function(lines, function)
    add_rows(lines, rows, "")
    return lines_text(lines)


def row_text(row):
    # A def has no form among the rows, and no rows in what is told of it.
    if row[0] == "def":
        return words_text(row)
    return words_text(row[:1 + len(head_kinds(row[0]))])


def value_text(value):
    return words_text(value)


def lines_text(lines):
    return "".join([line + "\n" for line in lines])


def words_text(parts):
    """A word stands ahead of its parts, in their order: so all is written as it stands, however deep."""
    words = []
    waiting = [parts]
    while len(waiting) > 0:
        part = waiting.pop()
        if isinstance(part, tuple):
            waiting.extend(part[::-1])
        else:
            words.append(str(part))
    return " ".join(words)


def add_function(lines, function):
    name, params, owns, rows = function
    lines.append(words_text(("def", name, params)))
    lines.extend([AHEAD + words_text(("own", own)) for own in owns])
    add_rows(lines, rows, AHEAD)
    lines.append("end")


def add_rows(lines, rows, ahead):
    for row in rows:
        lines.append(ahead + row_text(row))
        if row[0] == "if":
            add_if(lines, row, ahead)
        if row[0] == "while":
            add_rows(lines, row[2], ahead + AHEAD)
            lines.append(ahead + "end")
        if row[0] == "try":
            add_try(lines, row, ahead)


def add_if(lines, row, ahead):
    add_rows(lines, row[2], ahead + AHEAD)
    if len(row[3]) > 0:
        lines.append(ahead + "else")
        add_rows(lines, row[3], ahead + AHEAD)
    lines.append(ahead + "end")


def add_try(lines, row, ahead):
    add_rows(lines, row[1], ahead + AHEAD)
    lines.append(ahead + words_text(("catch", row[2])))
    add_rows(lines, row[3], ahead + AHEAD)
    lines.append(ahead + "end")
