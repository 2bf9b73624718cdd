"""The numbers of rows and the doors [1.4], and that what is told is the asker's own [0.1]."""
import copy
import unittest

from retrace.numbers import doors_of, rows_of

ONE = ("number", 1)
BOXES = (("a", 0), ("b", 5))
LISTS = (("l", (1, 2)),)
SET = ("set", "a", ONE)
TELL = ("tell", ("box", "a"))
FAIL = ("fail", ONE)
PUSH = ("push", "l", ONE)
POP = ("pop", "a", "l")
PUT = ("put", "l", ONE, ONE)
RETURN = ("return", ONE)
NOTHING = ((), (), (), ())


def program(*rows, functions=()):
    return (BOXES, LISTS, tuple(functions), rows)


def ask(door):
    return ("ask", "a", door)


PARTS = {"if": (2, 3), "while": (2,), "try": (1, 3)}


def spans(rows, first, around):
    """The triples by another way: each row's number is reckoned from how many rows stand ahead of it."""
    told = []
    for row in rows:
        told.append((first, row, around))
        behind = first + 1
        for part in [row[place] for place in PARTS.get(row[0], ())]:
            within = spans(part, behind, first)
            told.extend(within)
            behind += len(within)
        first = behind
    return told


IF = ("if", ONE, (SET, TELL), (FAIL,))
WHILE = ("while", ("box", "a"), (PUSH, POP))
TRY = ("try", (FAIL, PUT), "b", (TELL,))
DEEPER = ("try", (ask("c"), ("while", ONE, (TELL,))), "a", (ask("b"), FAIL))
DEEP = ("while", ONE, (SET, ("if", ONE, (DEEPER,), (PUSH,)), POP))
SAMPLES = (
    NOTHING,
    program(),
    program(SET),
    program(SET, TELL, SET, SET),
    program(IF, SET),
    program(WHILE, SET),
    program(TRY, SET),
    program(DEEP, DEEP),
    program(SET, functions=[("f", (), (), ())]),
    program(functions=[("f", ("x",), ("y",), (RETURN,)), ("g", (), (), (IF, RETURN))]),
    program(DEEP, ("call", "a", "f", (ONE,)), functions=[("f", ("x",), (), (DEEP, ask("a"))), ("if", (), (), (TRY,))]),
)


class Rows(unittest.TestCase):
    def told(self, asked, expected):
        found = rows_of(asked)
        self.assertIs(type(found), list)
        self.assertEqual(found, expected)

    def test_a_program_of_nothing(self):
        self.told(NOTHING, [])
        self.told(program(), [])

    def test_rows_of_the_program_alone(self):
        rows = (SET, PUSH, POP, PUT, ask("d"), TELL, FAIL)
        self.told(program(*rows), [(number, row, -1) for number, row in enumerate(rows)])

    def test_boxes_and_lists_have_no_numbers(self):
        self.told(((("a", 0), ("b", 1), ("c", 2)), (("l", ()), ("m", (1,))), (), (SET,)), [(0, SET, -1)])

    def test_a_function(self):
        asked = program(SET, TELL, functions=[("f", ("x", "y"), ("z",), (TELL, RETURN))])
        self.told(asked, [(0, ("def", "f"), -1), (1, TELL, 0), (2, RETURN, 0), (3, SET, -1), (4, TELL, -1)])

    def test_functions_in_turn_as_they_are_written(self):
        functions = [("z", (), (), (SET,)), ("a", (), (), ()), ("m", (), (), (TELL, RETURN)), ("b", (), (), (FAIL,))]
        self.told(program(PUSH, functions=functions), [
            (0, ("def", "z"), -1), (1, SET, 0),
            (2, ("def", "a"), -1),
            (3, ("def", "m"), -1), (4, TELL, 3), (5, RETURN, 3),
            (6, ("def", "b"), -1), (7, FAIL, 6),
            (8, PUSH, -1),
        ])

    def test_functions_alone(self):
        functions = [("f", (), (), ()), ("g", (), (), ())]
        self.told(program(functions=functions), [(0, ("def", "f"), -1), (1, ("def", "g"), -1)])

    def test_an_if(self):
        self.told(program(SET, IF, TELL), [
            (0, SET, -1), (1, IF, -1), (2, SET, 1), (3, TELL, 1), (4, FAIL, 1), (5, TELL, -1)])

    def test_a_while(self):
        self.told(program(WHILE, TELL), [(0, WHILE, -1), (1, PUSH, 0), (2, POP, 0), (3, TELL, -1)])

    def test_a_try(self):
        self.told(program(TRY, SET), [(0, TRY, -1), (1, FAIL, 0), (2, PUT, 0), (3, TELL, 0), (4, SET, -1)])

    def test_empty_rows_within(self):
        for row, within in (
            (("if", ONE, (), ()), ()), (("if", ONE, (SET,), ()), (SET,)), (("if", ONE, (), (TELL,)), (TELL,)),
            (("while", ONE, ()), ()),
            (("try", (), "a", ()), ()), (("try", (SET,), "a", ()), (SET,)), (("try", (), "a", (TELL,)), (TELL,)),
        ):
            with self.subTest(row=row):
                inner = [(1 + place, one, 0) for place, one in enumerate(within)]
                self.told(program(row, FAIL), [(0, row, -1)] + inner + [(1 + len(within), FAIL, -1)])

    def test_around_is_the_innermost_row(self):
        three = ("if", ONE, (SET,), (TELL,))
        two = ("try", (three, PUSH), "b", (POP,))
        one = ("while", ONE, (FAIL, two, PUT))
        self.told(program(one, SET), [
            (0, one, -1), (1, FAIL, 0), (2, two, 0), (3, three, 2), (4, SET, 3), (5, TELL, 3), (6, PUSH, 2), (7, POP, 2),
            (8, PUT, 0), (9, SET, -1)])

    def test_around_in_a_function(self):
        inner = ("while", ONE, (RETURN, SET))
        outer = ("if", ONE, (inner,), (RETURN,))
        self.told(program(outer, functions=[("f", (), (), ()), ("g", (), (), (TELL, outer, RETURN))]), [
            (0, ("def", "f"), -1), (1, ("def", "g"), -1), (2, TELL, 1), (3, outer, 1), (4, inner, 3), (5, RETURN, 4),
            (6, SET, 4), (7, RETURN, 3), (8, RETURN, 1), (9, outer, -1), (10, inner, 9), (11, RETURN, 10), (12, SET, 10),
            (13, RETURN, 9)])

    def test_rows_within_the_second_rows(self):
        inner = ("while", ONE, (SET,))
        for outer in (("if", ONE, (TELL,), (inner, FAIL)), ("try", (TELL,), "a", (inner, FAIL))):
            self.told(program(outer, POP), [
                (0, outer, -1), (1, TELL, 0), (2, inner, 0), (3, SET, 2), (4, FAIL, 0), (5, POP, -1)])

    def test_rows_alike_have_numbers_of_their_own(self):
        self.told(program(SET, SET, WHILE, WHILE), [
            (0, SET, -1), (1, SET, -1), (2, WHILE, -1), (3, PUSH, 2), (4, POP, 2),
            (5, WHILE, -1), (6, PUSH, 5), (7, POP, 5)])

    def test_names_like_the_words_of_rows(self):
        rows = (("set", "if", ("box", "while")), ("call", "try", "ask", ()), ("ask", "while", "if"), ("pop", "try", "if"))
        self.told(((("if", 0), ("while", 1), ("try", 2)), (), (("ask", (), (), ()),), rows),
                  [(0, ("def", "ask"), -1)] + [(1 + place, row, -1) for place, row in enumerate(rows)])

    def test_a_call_and_its_function_don_t_stand_around_one_another(self):
        call = ("call", "a", "f", (ONE, ONE))
        self.told(program(call, functions=[("f", ("x", "y"), (), (call,))]), [
            (0, ("def", "f"), -1), (1, call, 0), (2, call, -1)])

    def test_as_deep_and_as_many_as_may_be_and_beyond(self):
        for depth in (5, 6, 9, 60):
            row = TELL
            for _ in range(depth - 1):
                row = ("while", ONE, (row,))
            self.assertEqual([(number, up) for number, _, up in rows_of(program(row))],
                             [(number, number - 1) for number in range(depth)])
        for count in (59, 60, 61, 75):
            self.told(program(*[SET] * count), [(number, SET, -1) for number in range(count)])

    def test_samples_by_another_way(self):
        for asked in SAMPLES:
            expected = []
            for name, _, _, rows in asked[2]:
                number = len(expected)
                expected.append((number, ("def", name), -1))
                expected.extend(spans(rows, number + 1, number))
            self.told(asked, expected + spans(asked[3], len(expected), -1))

    def test_triples_are_tuples_and_numbers_have_no_gap(self):
        for asked in SAMPLES:
            found = rows_of(asked)
            self.assertEqual([triple[0] for triple in found], list(range(len(found))))
            for triple in found:
                self.assertEqual([type(part) for part in triple], [int, tuple, int])
                self.assertIs(type(triple), tuple)
                self.assertLess(triple[2], triple[0])


class Doors(unittest.TestCase):
    def told(self, asked, expected):
        found = doors_of(asked)
        self.assertIs(type(found), list)
        self.assertEqual(found, expected)

    def test_none(self):
        self.told(NOTHING, [])
        self.told(program(), [])
        self.told(program(SET, IF, WHILE, TRY, functions=[("ask", (), (), (RETURN,))]), [])

    def test_in_the_program(self):
        self.told(program(SET, ask("door"), TELL), ["door"])

    def test_in_functions(self):
        functions = [("f", (), (), (TELL, ask("n"))), ("g", ("x",), (), (("ask", "x", "m"),))]
        self.told(program(functions=functions), ["m", "n"])

    def test_in_functions_and_in_the_program(self):
        functions = [("f", (), (), (ask("z"),)), ("g", (), (), (ask("c"), RETURN))]
        self.told(program(ask("k"), ask("a"), functions=functions), ["a", "c", "k", "z"])

    def test_rising_as_texts_are(self):
        doors = ["b", "ab", "zz", "a", "ba", "aa", "z", "abc", "aaaaaa"]
        self.told(program(*[ask(door) for door in doors]), ["a", "aa", "aaaaaa", "ab", "abc", "b", "ba", "z", "zz"])

    def test_each_once(self):
        rows = (ask("d"), ask("c"), ask("d"), ("while", ONE, (ask("c"), ("ask", "b", "d"))))
        self.told(program(*rows, functions=[("f", (), (), (ask("d"),))]), ["c", "d"])

    def test_within_each_form_of_row(self):
        for row in (
            ("if", ONE, (SET, ask("d")), ()), ("if", ONE, (), (ask("d"),)), ("while", ONE, (ask("d"), SET)),
            ("try", (ask("d"),), "a", ()), ("try", (), "a", (SET, ask("d"))),
        ):
            self.told(program(SET, row), ["d"])
            self.told(program(functions=[("f", (), (), (row,))]), ["d"])

    def test_within_rows_within_rows(self):
        four = ("try", (ask("e"),), "a", (ask("d"),))
        three = ("if", ONE, (four,), (ask("c"),))
        two = ("while", ONE, (three, ask("b")))
        one = ("try", (TELL,), "a", (two, ask("a")))
        self.told(program(one), ["a", "b", "c", "d", "e"])
        self.told(program(functions=[("f", (), (), (SET, one))]), ["a", "b", "c", "d", "e"])

    def test_doors_called_like_boxes_lists_functions_and_words(self):
        rows = (ask("l"), ask("a"), ask("f"), ask("ask"), ask("if"))
        self.told(program(*rows, functions=[("f", (), (), ())]), ["a", "ask", "f", "if", "l"])

    def test_other_names_are_no_doors(self):
        call = ("call", "ask", "ask", (("box", "ask"),))
        rows = (("set", "ask", ("box", "ask")), ("pop", "ask", "l"), call, ("ask", "ask", "d"))
        self.told(((("ask", 0),), LISTS, (("ask", ("p",), ("o",), ()),), rows), ["d"])


class TheAskersOwn(unittest.TestCase):
    def test_a_list_told_and_then_changed(self):
        for ask_of in (rows_of, doors_of):
            for asked in SAMPLES:
                kept = list(ask_of(asked))
                for change in (list.clear, list.reverse, lambda told: told.append("x")):
                    change(ask_of(asked))
                    self.assertEqual(ask_of(asked), kept)

    def test_what_was_told_stays_when_others_are_asked(self):
        for ask_of in (rows_of, doors_of):
            told = [ask_of(asked) for asked in SAMPLES]
            kept = copy.deepcopy(told)
            for asked in reversed(SAMPLES):
                ask_of(asked).append("x")
            self.assertEqual(told, kept)

    def test_asked_again_also_behind_another_program(self):
        for ask_of in (rows_of, doors_of):
            first = [list(ask_of(asked)) for asked in SAMPLES]
            self.assertEqual([ask_of(asked) for asked in SAMPLES], first)
            self.assertEqual([ask_of(asked) for asked in reversed(SAMPLES)], first[::-1])
            for place, asked in enumerate(SAMPLES):
                for other in SAMPLES:
                    ask_of(other)
                    self.assertEqual(ask_of(asked), first[place])

    def test_programs_made_anew(self):
        for door in ("a", "b", "c"):
            made = program(SET, ("while", ONE, (ask(door),)))
            self.assertEqual(rows_of(made)[2], (2, ask(door), 1))
            self.assertEqual(doors_of(made), [door])

    def test_the_program_stays(self):
        for asked in SAMPLES:
            kept = copy.deepcopy(asked)
            shown = repr(asked)
            rows_of(asked)
            doors_of(asked)
            self.assertEqual(asked, kept)
            self.assertEqual(repr(asked), shown)


if __name__ == "__main__":
    unittest.main()
