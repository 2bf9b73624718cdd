"""The forms of values and rows, which those who check, number, write and read them share."""

# What stands behind a value's word, part by part.
VALUE_FORMS = {
    "number": ("number",),
    "box": ("box",),
    "plus": ("value", "value"),
    "minus": ("value", "value"),
    "times": ("value", "value"),
    "over": ("value", "value"),
    "rest": ("value", "value"),
    "less": ("value", "value"),
    "same": ("value", "value"),
    "not": ("value",),
    "item": ("list", "value"),
    "size": ("list",),
}

# What stands behind a row's word, part by part.
ROW_FORMS = {
    "set": ("box", "value"),
    "push": ("list", "value"),
    "pop": ("box", "list"),
    "put": ("list", "value", "value"),
    "ask": ("box", "door"),
    "tell": ("value",),
    "if": ("value", "rows", "rows"),
    "while": ("value", "rows"),
    "try": ("rows", "box", "rows"),
    "fail": ("value",),
    "call": ("box", "function", "values"),
    "return": ("value",),
}


def has_word(thing):
    # Asked ahead of the look into a form, since a thing of another kind may not be fit for a key.
    return isinstance(thing, tuple) and len(thing) > 0 and isinstance(thing[0], str)


def value_kinds(word):
    return VALUE_FORMS.get(word)


def row_kinds(word):
    return ROW_FORMS.get(word)


def head_kinds(word):
    """The kinds of the parts that a row's first line of text holds: those ahead of its first rows."""
    kinds = ROW_FORMS[word]
    if "rows" in kinds:
        return kinds[:kinds.index("rows")]
    return kinds


def parts_within(row):
    """The rows within a row, part by part: an if's and a try's have two parts."""
    return [part for kind, part in zip(ROW_FORMS[row[0]], row[1:]) if kind == "rows"]
