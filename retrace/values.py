"""What a name, a number and a value are."""

MOST_LETTERS = 6
GREATEST = 999999
DEEPEST = 4

# What stands behind a value's word, part by part.
FORMS = {
    "number": ("number",),
    "box": ("box",),
    "plus": ("value", "value"),
    "minus": ("value", "value"),
    "times": ("value", "value"),
    "over": ("value", "value"),
    "rest": ("value", "value"),
    "less": ("value", "value"),
    "same": ("value", "value"),
    "not": ("value",),
    "item": ("list", "value"),
    "size": ("list",),
}


def is_name(thing):
    if not isinstance(thing, str):
        return False
    return 1 <= len(thing) <= MOST_LETTERS and all(["a" <= sign <= "z" for sign in thing])


def is_number(thing):
    # Python takes a truth for a whole number; here it is none.
    if isinstance(thing, bool) or not isinstance(thing, int):
        return False
    return 0 <= thing <= GREATEST


def is_value(thing, boxes, lists):
    return is_value_within(thing, boxes, lists, DEEPEST)


def is_value_within(thing, boxes, lists, depth):
    # The depth that is left bounds the walk: a thing of thousands of tuples is left at the fifth.
    if depth == 0 or not isinstance(thing, tuple) or len(thing) == 0:
        return False
    # Asked ahead of the look into FORMS, since a thing of another kind may not be fit for a key.
    if not isinstance(thing[0], str):
        return False
    kinds = FORMS.get(thing[0])
    if kinds is None or len(thing) != 1 + len(kinds):
        return False
    return all([is_part(kind, part, boxes, lists, depth - 1) for kind, part in zip(kinds, thing[1:])])


def is_part(kind, part, boxes, lists, depth):
    if kind == "number":
        return is_number(part)
    # A name is asked for first: a thing of another kind may call itself the same as any name.
    if kind == "box":
        return is_name(part) and part in boxes
    if kind == "list":
        return is_name(part) and part in lists
    return is_value_within(part, boxes, lists, depth)
