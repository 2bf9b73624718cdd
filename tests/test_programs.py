"""Programs [1.1] to [1.4] and worlds [1.5], made of whatever things, or refused; [0.1], [0.3], [0.4]."""
import copy
import string
import unittest

from samples import (
    BOXES, EACH_ROW, FUNCTIONS, LISTS, NOTHING, NO_PARAMS, ONE, OTHER_KINDS, PLAIN_ROWS, RETURN, SET, TELL, TWO_PARAMS,
    VALUES, WRONG_EVERYWHERE, Maker, Refusing, around, function, nested_row, nested_value, with_rows)
from retrace.errors import NoProgram, NoRow, NoWorld, TooLong
from retrace.programs import program_of, world_of

# All forms in one program, some of them deep: wrong things are put into each of its places.
FULL = (
    BOXES,
    LISTS,
    (NO_PARAMS, ("g", ("p", "q"), ("o",), (
        ("while", ("less", ("box", "p"), ("box", "o")), (("try", (RETURN,), "q", (("set", "o", ("box", "p")),)),)),
        RETURN,
    )), ("k", ("p",), (), ())),
    PLAIN_ROWS + (
        ("if", ("not", ("same", ("box", "a"), ("size", "l"))), (("while", ONE, (SET, ("call", "a", "k", (ONE,)))),),
         (("try", (("ask", "b", "d"),), "a", (("put", "m", ONE, ("item", "l", ("number", 0))), TELL)),)),
    ),
)
WORLD = (("aa", (0, 5, 999999)), ("b", ()), ("door", (7,)))


def paths(thing, path=()):
    """Where each thing stands, the whole left out."""
    found = []
    if isinstance(thing, tuple):
        for place, part in enumerate(thing):
            found.append(path + (place,))
            found.extend(paths(part, path + (place,)))
    return found


def thing_at(thing, path):
    for place in path:
        thing = thing[place]
    return thing


def changed(thing, path, other):
    if path == ():
        return other
    place = path[0]
    return thing[:place] + (changed(thing[place], path[1:], other),) + thing[place + 1:]


def is_in_rows(path):
    return (path[0] == 3 and len(path) > 1) or (path[0] == 2 and len(path) > 3 and path[2] == 3)


def due(path):
    """The refusal that is due where a wrong thing stands at that place of a program."""
    return NoRow if is_in_rows(path) else NoProgram


def has_fixed_length(path):
    thing = thing_at(FULL, path)
    if not isinstance(thing, tuple):
        return False
    if is_in_rows(path):
        return len(thing) > 0 and isinstance(thing[0], str)
    return len(path) == 2


def names(count, letters=string.ascii_lowercase):
    return tuple(letters[:count])


def boxes(*found):
    return tuple([(name, 0) for name in found])


def lists(*found):
    return tuple([(name, ()) for name in found])


class Programs(Refusing):
    def told(self, *parts):
        self.same(program_of(*parts), parts)

    def no_program(self, *parts):
        self.refused(NoProgram, program_of, *parts)

    def no_row(self, *parts):
        self.refused(NoRow, program_of, *parts)

    def too_long(self, *parts):
        self.refused(TooLong, program_of, *parts)

    def no_row_anywhere(self, row):
        """No row in the program, in a function, and within other rows, alone and behind others."""
        for rows in [(row,), (SET, row)] + [(made,) for made in around((row,)) + around((SET, row))]:
            for parts in with_rows(rows):
                self.no_row(*parts)

    def rows_told(self, *rows):
        for parts in with_rows(rows):
            self.told(*parts)


class Told(Programs):
    def test_a_program_of_nothing(self):
        self.told(*NOTHING)

    def test_ordinary_ones(self):
        self.told(*FULL)
        self.told(BOXES, (), (), ())
        self.told((), LISTS, (), ())
        self.told((), (), (NO_PARAMS,), ())
        self.told((), (), (), (("tell", ONE),))

    def test_what_is_told_is_a_tuple_of_four(self):
        found = program_of(*FULL)
        self.assertIs(type(found), tuple)
        self.assertEqual(len(found), 4)

    def test_many_made_by_chance(self):
        for seed in range(200):
            self.told(*Maker(seed).program())

    def test_what_is_handed_in_stays(self):
        for parts in (FULL, NOTHING, (BOXES, LISTS, FUNCTIONS, (SET, RETURN)), ([("a", 0)], {"l": [1]}, [["f"]], [SET]),
                      (BOXES, [], (), [["set", "a", ["number", 1]]]), (BOXES, (), (), (["set", "a", {}], [[]]))):
            kept, shown = copy.deepcopy(parts), repr(parts)
            try:
                program_of(*parts)
            except ValueError:
                pass
            self.assertEqual(parts, kept)
            self.assertEqual(repr(parts), shown)

    def test_each_asking_stands_by_itself(self):
        kept = program_of(*FULL)
        shown = repr(kept)
        self.no_row(BOXES, LISTS, (), (("set", "x", ONE),))
        self.told((("x", 0),), (), (), (("set", "x", ONE),))
        self.no_row(BOXES, LISTS, (), (("set", "x", ONE),))
        self.no_row(BOXES, LISTS, (), (("call", "a", "g", (ONE, ONE)),))
        self.told(*FULL)
        self.assertEqual(repr(kept), shown)


class Rows(Programs):
    def test_each_form(self):
        for row in EACH_ROW:
            self.rows_told(row)
            self.rows_told(SET, row, row)
        self.rows_told(*EACH_ROW)

    def test_each_form_within_each_other(self):
        for row in EACH_ROW:
            for outer in around((row,)) + around((row, SET)):
                self.rows_told(outer)

    def test_each_value_in_each_place(self):
        for value in VALUES:
            self.rows_told(("set", "a", value), ("push", "l", value), ("put", "l", value, ONE), ("put", "l", ONE, value),
                           ("tell", value), ("if", value, (), ()), ("while", value, ()), ("fail", value),
                           ("call", "a", "g", (value, ONE)), ("call", "a", "g", (ONE, value)))
            self.told(BOXES, LISTS, (function((("return", value),)),), ())

    def test_a_return_stands_in_functions_alone(self):
        rows = [(RETURN,), (SET, RETURN)]
        for depth in (2, 3, 4, 5):
            rows.extend([(nested_row(depth, place, RETURN),) for place in range(5)])
        for found in rows:
            self.told(BOXES, LISTS, FUNCTIONS + (function(found),), ())
            self.no_row(BOXES, LISTS, FUNCTIONS + (function(found),), found)
            self.no_row(BOXES, LISTS, (), found)

    def test_other_kinds_in_each_part(self):
        for row in EACH_ROW + (RETURN,):
            for place in range(len(row)):
                for thing in WRONG_EVERYWHERE:
                    wrong = row[:place] + (thing,) + row[place + 1:]
                    for parts in with_rows((wrong,)) + with_rows((nested_row(4, 3, wrong),)):
                        self.no_row(*parts)

    def test_other_kinds_in_the_place_of_a_row(self):
        for thing in OTHER_KINDS + ("set", 0, ONE, ("box", "a"), ("def", "f"), (SET,), [SET], ("own", "a"), ("end",)):
            self.no_row_anywhere(thing)

    def test_one_thing_less_and_one_more(self):
        for row in EACH_ROW:
            for place in range(len(row)):
                self.no_row_anywhere(row[:place] + row[place + 1:])
            for more in (None, (), 0, "a", "l", ONE, (SET,), row[-1]):
                self.no_row_anywhere(row + (more,))
        for wrong in (("return",), ("return", ONE, ONE), ("return", "a"), ("return", ())):
            self.no_row_anywhere(wrong)

    def test_a_list_in_the_place_of_a_tuple(self):
        for row in EACH_ROW:
            self.no_row_anywhere(list(row))
        for row in (("if", ONE, [], ()), ("if", ONE, (), []), ("if", ONE, [SET], ()), ("while", ONE, [SET]),
                    ("try", [SET], "a", ()), ("try", (), "a", [SET]), ("call", "a", "f", []),
                    ("call", "a", "g", [ONE, ONE]), ("set", "a", ["number", 1])):
            self.no_row_anywhere(row)

    def test_another_word(self):
        for row in EACH_ROW:
            for word in ("", "SET", "sets", "set ", "number", "box", "def", "end", "else", "catch", "own", "answer", "let"):
                self.no_row_anywhere((word,) + row[1:])

    def test_rows_within_that_are_no_tuple(self):
        for thing in WRONG_EVERYWHERE[:-1] + (0, "a", SET, ONE):
            for row in around(thing):
                self.no_row_anywhere(row)

    def test_names_of_boxes(self):
        for name in ("c", "l", "f", "p", "o", "door", "", "A", "abcdefg"):
            for row in (("set", name, ONE), ("pop", name, "l"), ("ask", name, "d"), ("try", (), name, ()),
                        ("call", name, "f", ()), ("tell", ("box", name))):
                self.no_row_anywhere(row)

    def test_names_of_lists(self):
        for name in ("n", "a", "f", "p", "o", "door", "", "L", "abcdefg"):
            for row in (("push", name, ONE), ("pop", "a", name), ("put", name, ONE, ONE), ("tell", ("size", name)),
                        ("tell", ("item", name, ONE))):
                self.no_row_anywhere(row)

    def test_doors(self):
        for door in ("d", "zzzzzz", "a", "l", "f", "ask", "if"):
            self.rows_told(("ask", "a", door))
        for door in ("", "abcdefg", "D", "d1", "a b", " ", "a\n", "_") + OTHER_KINDS + (0, 1):
            self.no_row_anywhere(("ask", "a", door))

    def test_numbers_in_values(self):
        for number in (0, 1, 999999):
            self.rows_told(("tell", ("number", number)))
        for thing in (-1, 1000000, True, False, None, "1", 1.0, (1,), [1]):
            self.no_row_anywhere(("tell", ("number", thing)))
            self.no_row_anywhere(("call", "a", "g", (ONE, ("not", ("number", thing)))))

    def test_values_four_and_five_deep(self):
        for depth, right in ((1, True), (4, True), (5, False), (6, False), (3000, False)):
            value = nested_value(depth)
            for row in (("set", "a", value), ("put", "l", value, ONE), ("put", "l", ONE, value), ("push", "m", value),
                        ("if", value, (), ()), ("while", value, ()), ("fail", value), ("call", "a", "g", (ONE, value))):
                if right:
                    self.rows_told(row)
                else:
                    self.no_row_anywhere(row)

    def test_rows_five_and_six_deep(self):
        for place in range(5):
            for depth in (1, 2, 3, 4, 5):
                self.rows_told(nested_row(depth, place))
            for innermost in PLAIN_ROWS:
                self.rows_told(nested_row(5, place, innermost))
            for innermost in around((SET,)):
                self.rows_told(nested_row(4, place, innermost))
                for parts in with_rows((nested_row(5, place, innermost),)):
                    self.no_row(*parts)
            for depth in (6, 7, 60, 3000):
                for parts in with_rows((nested_row(depth, place),)) + with_rows((SET, nested_row(depth, place))):
                    self.no_row(*parts)

    def test_the_last_row_within_may_be_the_deep_one(self):
        for first in range(5):
            for second in range(5):
                four = nested_row(3, first, around((SET,))[second])
                self.rows_told(around((SET, four))[second])
                five = nested_row(4, first, around((SET,))[second])
                for parts in with_rows((around((SET, five))[second],)):
                    self.no_row(*parts)

    def test_no_rows_at_the_fifth_depth(self):
        for row in (("if", ONE, (), ()), ("while", ONE, ()), ("try", (), "a", ())):
            for place in range(5):
                self.rows_told(nested_row(5, place, row))

    def test_many_rows_within_too_many(self):
        row = SET
        for _ in range(50):
            row = ("if", ONE, (row,) * 100, (row,) * 100)
        self.no_row(BOXES, LISTS, (), (row,))


class Parts(Programs):
    def test_how_many_boxes(self):
        for count in range(7):
            self.told(boxes(*names(count)), (), (), ())
        for count in (7, 8, 20):
            self.no_program(boxes(*names(count)), (), (), ())

    def test_how_many_lists(self):
        for count in range(4):
            self.told((), lists(*names(count)), (), ())
        for count in (4, 5, 20):
            self.no_program((), lists(*names(count)), (), ())

    def test_how_many_things_of_a_list(self):
        for count in (0, 1, 11, 12):
            self.told((), (("l", tuple(range(count))),), (), ())
            self.told((), (("m", (1,)), ("l", (5,) * count)), (), ())
        for count in (13, 14, 100):
            self.no_program((), (("l", tuple(range(count))),), (), ())
            self.no_program((), (("m", (1,)), ("l", (5,) * count)), (), ())

    def test_how_many_functions(self):
        for count in range(5):
            self.told((), (), tuple([(name, (), (), ()) for name in names(count)]), ())
        for count in (5, 6, 20):
            self.no_program((), (), tuple([(name, (), (), ()) for name in names(count)]), ())

    def test_how_many_params_and_owns(self):
        for count in range(4):
            for other in range(4):
                self.told((), (), (("f", names(count), names(other, "uvwx"), ()),), ())
        for count in (4, 5):
            self.no_program((), (), (("f", names(count), (), ()),), ())
            self.no_program((), (), (("f", (), names(count), ()),), ())
            self.no_program((), (), (NO_PARAMS, ("g", ("u",), names(count), ())), ())

    def test_numbers_of_boxes_and_lists(self):
        for number in (0, 1, 999999):
            self.told((("a", number),), (("l", (number,)), ("m", (0, number))), (), ())
        for thing in (-1, 1000000, 10 ** 30, True, False, None, "1", 1.0, (1,), [1], ONE):
            self.no_program((("a", thing),), (), (), ())
            self.no_program((("a", 1), ("b", thing)), (), (), ())
            self.no_program((), (("l", (thing,)),), (), ())
            self.no_program((), (("l", (1, thing)),), (), ())

    def test_names_of_one_to_six_letters(self):
        for name in ("a", "z", "abcdef", "if", "end", "box", "number", "return"):
            self.told(((name, 0),), (), (), ())
            self.told((), ((name, ()),), (), ())
            self.told((), (), ((name, (), (), ()),), ())
            self.told((), (), (("f", (name,), (), ()),), ())
            self.told((), (), (("f", (), (name,), ()),), ())
        for name in ("", "abcdefg", "A", "a1", "a b", " ", "a\n", "_", "1") + OTHER_KINDS + (0, 1):
            self.no_program(((name, 0),), (), (), ())
            self.no_program((), ((name, ()),), (), ())
            self.no_program((), (), ((name, (), (), ()),), ())
            self.no_program((), (), (("f", (name,), (), ()),), ())
            self.no_program((), (), (("f", (), (name,), ()),), ())

    def test_other_kinds_in_the_place_of_a_part(self):
        for thing in OTHER_KINDS:
            if not isinstance(thing, tuple):
                self.no_program(thing, (), (), ())
                self.no_program((), thing, (), ())
                self.no_program((), (), thing, ())
                self.no_program((), (), (), thing)
                self.no_program((), (), (("f", thing, (), ()),), ())
                self.no_program((), (), (("f", (), thing, ()),), ())
                self.no_program((), (), (("f", (), (), thing),), ())
                self.no_program((), (("l", thing),), (), ())
        for thing in OTHER_KINDS + ("a", "ab", 0, ("a", 0, 0), ("f", (), ()), ("f", (), (), (), ()), ["a", 0], ["l", ()]):
            self.no_program((thing,), (), (), ())
            self.no_program((), (thing,), (), ())
            self.no_program((), (), (thing,), ())

    def test_rows_that_are_no_tuple(self):
        for thing in (None, [], [SET], {}, "", "set", 0, True, {"set": 1}, range(0), object()):
            self.no_program(BOXES, LISTS, FUNCTIONS, thing)
            self.no_program(BOXES, LISTS, (function(thing),), ())
            self.no_program(BOXES, LISTS, (NO_PARAMS, function(thing)), (SET,))

    def test_things_thousands_deep(self):
        bare, listed = (), []
        for _ in range(5000):
            bare, listed = (bare,), [listed]
        for thing in (bare, listed):
            for path in paths(FULL):
                if path != (3,) and not (len(path) == 3 and path[0] == 2 and path[2] == 3):
                    self.refused(due(path), program_of, *changed(FULL, path, thing))
        self.no_row(BOXES, LISTS, (), bare)
        self.no_row(BOXES, LISTS, (function(bare),), ())
        self.no_program(BOXES, LISTS, (), listed)


class EveryPlace(Programs):
    def test_other_kinds(self):
        for path in paths(FULL):
            for thing in WRONG_EVERYWHERE:
                # A tuple of things that are no rows is a tuple all the same.
                within = isinstance(thing, tuple) and isinstance(thing_at(FULL, path), tuple)
                self.refused(due(path + (0,)) if within else due(path), program_of, *changed(FULL, path, thing))

    def test_a_list_is_never_taken_for_a_tuple(self):
        for path in paths(FULL):
            thing = thing_at(FULL, path)
            if isinstance(thing, tuple):
                self.refused(due(path), program_of, *changed(FULL, path, list(thing)))

    def test_one_thing_more(self):
        for path in paths(FULL):
            thing = thing_at(FULL, path)
            if isinstance(thing, tuple):
                for more in (None, True, "", [], {}):
                    self.refused(due(path + (0,)), program_of, *changed(FULL, path, thing + (more,)))

    def test_one_thing_less(self):
        for path in paths(FULL):
            if has_fixed_length(path):
                thing = thing_at(FULL, path)
                for place in range(len(thing)):
                    self.refused(due(path), program_of, *changed(FULL, path, thing[:place] + thing[place + 1:]))
                self.refused(due(path), program_of, *changed(FULL, path, ()))


class Names(Programs):
    def test_boxes_and_lists_unlike_one_another(self):
        self.told(boxes("a", "b"), lists("c", "d"), (), ())
        self.no_program(boxes("a", "a"), (), (), ())
        self.no_program((("a", 0), ("b", 1), ("a", 2)), (), (), ())
        self.no_program((), lists("l", "l"), (), ())
        self.no_program((), (("l", (1,)), ("m", ()), ("l", ())), (), ())
        self.no_program(boxes("a", "x"), lists("l", "x"), (), ())

    def test_functions_unlike_one_another(self):
        self.told((), (), (("f", (), (), ()), ("g", (), (), ())), ())
        self.no_program((), (), (("f", (), (), ()), ("f", (), (), ())), ())
        self.no_program((), (), (("f", ("x",), (), ()), ("g", (), (), ()), ("f", (), ("y",), ())), ())

    def test_a_function_named_like_others(self):
        for name in ("a", "l", "x", "y", "u", "v"):
            functions = (function((("set", "x", ("box", "y")),), name=name), ("other", ("u",), ("v",), ()))
            self.told(BOXES, LISTS, functions, (("call", "a", name, (ONE,)), ("call", "a", "other", (ONE,))))

    def test_params_and_owns_unlike_one_another(self):
        self.told((), (), (("f", ("x", "y"), ("u", "v"), ()),), ())
        for params, owns in ((("x", "x"), ()), ((), ("x", "x")), (("x",), ("x",)), (("u", "x"), ("v", "x")),
                             (("x", "u", "x"), ()), ((), ("x", "u", "x")), (("x", "y", "z"), ("u", "v", "x"))):
            self.no_program((), (), (("f", params, owns, ()),), ())
            self.no_program((), (), (NO_PARAMS, ("g", params, owns, ())), ())

    def test_params_and_owns_unlike_boxes_and_lists(self):
        for name in ("a", "b", "l", "m"):
            self.no_program(BOXES, LISTS, (("f", (name,), (), ()),), ())
            self.no_program(BOXES, LISTS, (("f", (), (name,), ()),), ())
            self.no_program(BOXES, LISTS, (NO_PARAMS, ("g", ("x", name), ("y",), ())), ())
            self.no_program(BOXES, LISTS, (NO_PARAMS, ("g", ("x",), ("y", name), ())), ())

    def test_params_and_owns_of_two_functions_may_be_alike(self):
        self.told((), (), (("f", ("x",), ("y",), ()), ("g", ("x",), ("y",), ()), ("h", ("y",), ("x",), ())), ())

    def test_params_and_owns_are_boxes_in_their_own_function_alone(self):
        for name in ("x", "y"):
            for row in (("set", name, ONE), ("tell", ("box", name)), ("ask", name, "d"), ("pop", name, "l"),
                        ("try", (), name, ()), ("call", name, "f", ()), ("while", ONE, (("set", name, ONE),))):
                self.told(BOXES, LISTS, (NO_PARAMS, function((row,))), ())
                self.no_row(BOXES, LISTS, (NO_PARAMS, function(())), (row,))
                self.no_row(BOXES, LISTS, (("f", (), (), (row,)), function(())), ())
                self.no_row(BOXES, LISTS, (function(()), ("f", (), (), (row,))), ())
            for row in (("push", name, ONE), ("tell", ("size", name)), ("pop", "a", name), ("put", name, ONE, ONE)):
                self.no_row(BOXES, LISTS, (function((row,)),), ())

    def test_boxes_and_lists_of_the_program_in_functions(self):
        self.told(BOXES, LISTS, (function((SET, ("pop", "b", "m"), ("tell", ("item", "l", ("box", "x")))),),), ())


class Calls(Programs):
    def test_as_many_values_as_params(self):
        for count in range(4):
            functions = (("h", names(count, "uvw"), ("x", "y"), ()),)
            for given in range(6):
                row = ("call", "a", "h", (ONE,) * given)
                parts = (BOXES, LISTS, functions, (row,))
                deep = (BOXES, LISTS, functions + (function((nested_row(3, 4, row),), name="k"),), ())
                if given == count:
                    self.told(*parts)
                    self.told(*deep)
                else:
                    self.no_row(*parts)
                    self.no_row(*deep)

    def test_each_function_has_its_own_number_of_values(self):
        functions = (("f", ("x",), ("y", "z"), ()), ("g", ("x", "y"), (), ()), ("h", (), ("x",), ()))
        for name, count in (("f", 1), ("g", 2), ("h", 0)):
            for given in range(4):
                rows = (("call", "a", name, (ONE,) * given),)
                if given == count:
                    self.told(BOXES, LISTS, functions, rows)
                else:
                    self.no_row(BOXES, LISTS, functions, rows)

    def test_what_is_no_function(self):
        for name in ("a", "l", "x", "y", "ff", "call", "", "F", "abcdefg") + OTHER_KINDS:
            self.no_row_anywhere(("call", "a", name, ()))
            self.no_row_anywhere(("call", "a", name, (ONE,)))
        self.no_row(BOXES, LISTS, (), (("call", "a", "f", ()),))

    def test_ahead_of_where_it_stands_and_by_itself(self):
        ahead = ("f", (), (), (("call", "a", "g", (ONE, ONE)),))
        self.told(BOXES, LISTS, (ahead, TWO_PARAMS), ())
        self.told(BOXES, LISTS, (TWO_PARAMS, ahead), ())
        self.told(BOXES, LISTS, (("f", ("x",), (), (("call", "x", "f", (("box", "x"),)),)),), ())
        self.no_row(BOXES, LISTS, (ahead, ("g", ("p",), (), ())), ())
        self.no_row(BOXES, LISTS, (("f", ("x",), (), (("call", "x", "f", ()),)),), ())

    def test_wrong_values(self):
        for thing in (None, 1, "a", (), [], {}, ("number",), ("number", True), ["number", 1], ("box", "x"), SET):
            self.no_row(*with_rows((("call", "a", "g", (ONE, thing)),))[0])
            self.no_row(*with_rows((("call", "a", "g", (thing, ONE)),))[0])
        for thing in (None, 0, True, "", {}, [], [ONE, ONE], ONE, {"a": 1}):
            self.no_row_anywhere(("call", "a", "g", thing))


class TooManyNumbers(Programs):
    def test_sixty_and_sixty_one_rows(self):
        self.told(BOXES, LISTS, (), (SET,) * 60)
        for count in (61, 62, 500):
            self.too_long(BOXES, LISTS, (), (SET,) * count)

    def test_defs_and_rows_of_functions_have_numbers_too(self):
        functions = (("f", (), (), (SET,) * 10), ("g", (), (), ()), ("h", ("x",), ("y",), (RETURN,) * 7))
        self.told(BOXES, LISTS, functions, (SET,) * 40)
        self.too_long(BOXES, LISTS, functions, (SET,) * 41)
        self.told((), (), (("f", (), (), (RETURN,) * 59),), ())
        self.too_long((), (), (("f", (), (), (RETURN,) * 60),), ())
        self.too_long((), (), (("f", (), (), (RETURN,) * 59), ("g", (), (), ())), ())

    def test_rows_within_rows_have_numbers_too(self):
        for place in range(5):
            five = nested_row(5, place)
            # In two of the five ways each row around it has another row within it, too.
            each = 9 if place in (1, 3) else 5
            most = 60 // each
            self.told(BOXES, LISTS, (), (five,) * most + (SET,) * (60 - most * each))
            self.too_long(BOXES, LISTS, (), (five,) * most + (SET,) * (61 - most * each))
        self.told(BOXES, LISTS, (), (("if", ONE, (SET,) * 29, (SET,) * 30),))
        self.too_long(BOXES, LISTS, (), (("if", ONE, (SET,) * 30, (SET,) * 30),))
        self.told(BOXES, LISTS, (), (("try", (SET,) * 30, "a", (SET,) * 29),))
        self.too_long(BOXES, LISTS, (), (("try", (SET,) * 30, "a", (SET,) * 30),))

    def test_else_catch_end_own_boxes_and_lists_have_none(self):
        row = ("if", ONE, (SET,), (("try", (SET,), "a", (SET,)),))
        functions = (("f", ("u", "v", "w"), ("x", "y", "z"), (row,) * 5),)
        self.told(BOXES, LISTS, functions, (row,) * 5 + (SET,) * 9)
        self.too_long(BOXES, LISTS, functions, (row,) * 5 + (SET,) * 10)


class Order(Programs):
    wrong_row = ("set", "zz", ONE)

    def test_a_wrong_part_and_a_wrong_row(self):
        rows = (self.wrong_row,)
        for parts in (
            (boxes("a", "a"), (), (), rows), (boxes(*names(7)), (), (), rows), ([], (), (), rows),
            ((), None, (), rows), (BOXES, lists("a"), (), rows), ((), (("l", (0,) * 13),), (), rows),
            ((), (), [], rows), ((), (), (("f", (), (), rows), ("f", (), (), rows)), rows),
            (BOXES, (), (("f", ("a",), (), rows),), rows), ((), (), (("f", (), (), rows),), [SET]),
            ((), (), (("f", (), (), rows), ("g", (), (), None)), ()), ((), (), (("F", (), (), rows),), ()),
            ((), (), (("f", (), (), rows), ("g", ("x", "x"), (), ())), rows),
        ):
            self.no_program(*parts)

    def test_a_wrong_part_and_too_many_numbers(self):
        rows = (("tell", ONE),) * 61
        self.no_program(boxes("a", "a"), (), (), rows)
        self.no_program((), [], (), rows)
        self.no_program((), (), (("f", (), (), rows), ("g", (), (), None)), ())
        self.no_program((), (), (("f", (), (), rows),), list(rows))
        self.no_program(boxes("a", "a"), (), (), rows + (self.wrong_row,))

    def test_a_wrong_row_and_too_many_numbers(self):
        rows = (SET,) * 61
        self.no_row(BOXES, LISTS, (), rows + (self.wrong_row,))
        self.no_row(BOXES, LISTS, (), (self.wrong_row,) + rows)
        self.no_row(BOXES, LISTS, (("f", (), (), rows),), (self.wrong_row,))
        self.no_row(BOXES, LISTS, (("f", (), (), (self.wrong_row,)),), rows)
        self.no_row(BOXES, LISTS, (), rows + (nested_row(6),))
        self.no_row(BOXES, LISTS, (), rows + (RETURN,))
        self.no_row(BOXES, LISTS, FUNCTIONS, rows + (("call", "a", "g", (ONE,)),))
        self.no_row(BOXES, LISTS, (), rows + (("while", ONE, [SET]),))


class Worlds(Refusing):
    def told(self, pairs):
        found = world_of(pairs)
        self.same(found, pairs)
        self.assertIs(type(found), tuple)

    def no_world(self, thing):
        self.refused(NoWorld, world_of, thing)

    def test_ordinary_ones(self):
        self.told(())
        self.told(WORLD)
        self.told((("d", ()),))
        self.told((("d", (3, 1, 2, 2, 0)),))

    def test_how_many_doors(self):
        for count in range(6):
            self.told(lists(*names(count)))
        for count in (6, 7, 20):
            self.no_world(lists(*names(count)))

    def test_how_many_numbers(self):
        for count in (0, 1, 12, 13, 39, 40):
            self.told((("d", (7,) * count),))
            self.told((("c", ()), ("d", tuple(range(count)))))
        for count in (41, 42, 100):
            self.no_world((("d", (7,) * count),))
            self.no_world((("c", ()), ("d", tuple(range(count)))))

    def test_which_numbers(self):
        for number in (0, 1, 999999):
            self.told((("d", (number,)), ("e", (5, number))))
        for thing in (-1, 1000000, True, False, None, "1", "", 1.0, (), (1,), [1], {}):
            self.no_world((("d", (thing,)),))
            self.no_world((("c", (1,)), ("d", (1, thing, 2))))

    def test_doors_rise(self):
        for doors in (("a", "aa", "ab", "b", "ba"), ("a", "b"), ("y", "z"), ("aaaaaa", "b")):
            self.told(lists(*doors))
            self.no_world(lists(*reversed(doors)))
        for doors in (("b", "a", "c"), ("a", "c", "b"), ("aa", "a"), ("b", "aaaaaa"), ("a", "b", "d", "c", "e")):
            self.no_world(lists(*doors))

    def test_each_door_once(self):
        for doors in (("a", "a"), ("a", "a", "b"), ("a", "b", "b"), ("a", "b", "a"), ("a", "b", "c", "c", "d")):
            self.no_world(lists(*doors))
        self.no_world((("a", (1,)), ("a", (2,))))

    def test_doors_are_names(self):
        for door in ("a", "zzzzzz", "answer", "if"):
            self.told(lists(door))
        for door in ("", "abcdefg", "A", "a1", "a b", " ", "a\n", "_") + OTHER_KINDS + (0, 1):
            self.no_world(lists(door))
            self.no_world((("a", (1,)), (door, ())))

    def test_other_kinds(self):
        for thing in OTHER_KINDS + ("", "a", 0, 1, [("d", ())], {"d": (1,)}, [["d", [1]]]):
            if not isinstance(thing, tuple) or len(thing) > 0:
                self.no_world(thing)
            self.no_world((thing,))
        for pair in (("d", ()), ("d", (1,))):
            self.no_world(pair)

    def test_other_kinds_in_every_place(self):
        for path in paths(WORLD):
            for thing in WRONG_EVERYWHERE:
                self.no_world(changed(WORLD, path, thing))

    def test_a_list_is_never_taken_for_a_tuple(self):
        self.no_world(list(WORLD))
        for path in paths(WORLD):
            thing = thing_at(WORLD, path)
            if isinstance(thing, tuple):
                self.no_world(changed(WORLD, path, list(thing)))

    def test_one_thing_less_and_one_more(self):
        for place, pair in enumerate(WORLD):
            for wrong in ((), pair[:1], pair[1:], pair + (1,), pair + ((),), pair + pair):
                self.no_world(changed(WORLD, (place,), wrong))
        self.no_world(WORLD + (None,))
        self.no_world(WORLD + ((),))

    def test_things_thousands_deep(self):
        bare, listed = (), []
        for _ in range(5000):
            bare, listed = (bare,), [listed]
        for thing in (bare, listed):
            self.no_world(thing)
            for path in paths(WORLD):
                self.no_world(changed(WORLD, path, thing))

    def test_what_is_handed_in_stays(self):
        for thing in (WORLD, [["d", [1, 2]]], (("d", [1]),), {"d": [1]}):
            kept, shown = copy.deepcopy(thing), repr(thing)
            try:
                world_of(thing)
            except NoWorld:
                pass
            self.assertEqual(thing, kept)
            self.assertEqual(repr(thing), shown)


if __name__ == "__main__":
    unittest.main()
