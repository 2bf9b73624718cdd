"""What a name, a number and a value are."""
from retrace.nodes import has_word, value_kinds

MOST_LETTERS = 6
GREATEST = 999999
DEEPEST = 4


def is_name(thing):
    if not isinstance(thing, str):
        return False
    return 1 <= len(thing) <= MOST_LETTERS and all(["a" <= sign <= "z" for sign in thing])


def is_whole(thing, least, most):
    # Python takes a truth for a whole number; here it is none.
    if isinstance(thing, bool) or not isinstance(thing, int):
        return False
    return least <= thing <= most


def is_number(thing):
    return is_whole(thing, 0, GREATEST)


def is_value(thing, boxes, lists):
    return is_value_within(thing, boxes, lists, DEEPEST)


def is_value_within(thing, boxes, lists, depth):
    # The depth that is left bounds the walk: a thing of thousands of tuples is left at the fifth.
    if depth == 0 or not has_word(thing):
        return False
    kinds = value_kinds(thing[0])
    if kinds is None or len(thing) != 1 + len(kinds):
        return False
    return all([is_part(kind, part, boxes, lists, depth - 1) for kind, part in zip(kinds, thing[1:])])


def is_part(kind, part, boxes, lists, depth):
    if kind == "number":
        return is_number(part)
    # A name is asked for first: a thing of another kind may call itself the same as any name.
    if kind == "box":
        return is_name(part) and part in boxes
    if kind == "list":
        return is_name(part) and part in lists
    return is_value_within(part, boxes, lists, depth)
