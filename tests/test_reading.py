"""Texts read to programs [2.2] and worlds [2.3], and worlds written [2.3]; [0.1], [0.3]."""
import unittest

from samples import BOXES, EACH_ROW, FUNCTIONS, LISTS, NOTHING, ONE, RETURN, SET, VALUES, Maker, Refusing, around
from test_texts import LONG, LONG_TEXT
from retrace.errors import NoProgram, NoRow, NoText, NoWorld, TooLong
from retrace.reading import read, read_world, written_world
from retrace.texts import value_text, written

# What stands ahead of the rows that the tests below read.
HEAD = "box a 0\nbox b 999999\nlist l 1 2 3\nlist m\ndef f\nend\ndef g p q\n  own o\nend\n"
SET_TEXT = "set a number 1"

# Each form of row as a text of one line, all its words needed; of an if, a while and a try, and of a def, the rest of it.
ONE_LINE = (
    "set a number 1", "set b plus box a number 1", "push l box a", "pop a l", "put l number 0 number 1", "ask a door",
    "tell size l", "fail item l number 0", "call a f", "call b g number 1 box b",
)
OPENING = (
    ("if box a", "end"), ("if not same box a number 1", "else\nend"), ("while less box a number 1", "end"),
    ("try", "catch a\nend"),
)


def lines(*found):
    return "".join([line + "\n" for line in found])


class Reading(Refusing):
    def told(self, text, *parts):
        self.same(read(text), parts)

    def rows_told(self, text, *rows):
        """The rows' text behind boxes, lists and functions, as the program's rows, and as a function's."""
        self.told(HEAD + text, BOXES, LISTS, FUNCTIONS, rows)
        self.told(HEAD + "def h x y\n" + text + "\nend\n", BOXES, LISTS, FUNCTIONS + (("h", ("x", "y"), (), rows),), ())

    def no_text(self, text):
        self.refused(NoText, read, text)

    def no_text_anywhere(self, text):
        """No text of rows, in the program, in a function, within other rows, alone and with others."""
        self.no_text(HEAD + text)
        self.no_text(HEAD + lines(SET_TEXT, text, SET_TEXT))
        self.no_text(HEAD + lines("def h", text, "end"))
        for opening, closing in OPENING:
            self.no_text(HEAD + lines(opening, text, closing))
        self.no_text(HEAD + lines("if box a", "else", SET_TEXT, text, "end"))
        self.no_text(HEAD + lines("try", "catch a", text, "end"))


class Told(Reading):
    def test_nothing(self):
        for text in ("", "\n", "\n\n\n", " ", "   \n  \n ", "#", "# box a 0\n", "  # x\n\n"):
            self.told(text, *NOTHING)

    def test_all_there_is(self):
        self.told(LONG_TEXT, *LONG)

    def test_what_is_told_is_a_tuple_of_four(self):
        found = read(LONG_TEXT)
        self.assertIs(type(found), tuple)
        self.assertEqual(len(found), 4)

    def test_what_is_written_is_read_to_the_same(self):
        for seed in range(400):
            program = Maker(seed).program()
            self.told(written(program), *program)
        for row in EACH_ROW:
            for outer in [row] + around((row,)) + around((SET, row)):
                for program in ((BOXES, LISTS, FUNCTIONS, (outer,)), (BOXES, LISTS, FUNCTIONS + (("h", (), (), (outer,)),), ())):
                    self.told(written(program), *program)
        for value in VALUES:
            program = (BOXES, LISTS, (("h", (), (), (("return", value),)),), (("tell", value), ("if", value, (), ())))
            self.told(written(program), *program)

    def test_boxes_lists_functions_rows(self):
        self.told("box a 5\n", (("a", 5),), (), (), ())
        self.told("list l 5 0 7\n", (), (("l", (5, 0, 7)),), (), ())
        self.told("list l\n", (), (("l", ()),), (), ())
        self.told("def f x y\nown z\nown u\ntell box z\nend\n", (), (),
                  (("f", ("x", "y"), ("z", "u"), (("tell", ("box", "z")),)),), ())
        self.told("tell number 1\n", (), (), (), (("tell", ONE),))
        self.told("box a 1\ntell box a\n", (("a", 1),), (), (), (("tell", ("box", "a")),))
        self.told("list l\ntell size l\n", (), (("l", ()),), (), (("tell", ("size", "l")),))
        self.told("box a 1\ndef f\nend\n", (("a", 1),), (), (("f", (), (), ()),), ())

    def test_each_row(self):
        self.rows_told("set a number 1", SET)
        self.rows_told("push m box b", ("push", "m", ("box", "b")))
        self.rows_told("pop a l", ("pop", "a", "l"))
        self.rows_told("put l number 1 box a", ("put", "l", ONE, ("box", "a")))
        self.rows_told("ask b door", ("ask", "b", "door"))
        self.rows_told("tell size l", ("tell", ("size", "l")))
        self.rows_told("fail number 1", ("fail", ONE))
        self.rows_told("call a f", ("call", "a", "f", ()))
        self.rows_told("call a g box b plus number 1 size l",
                       ("call", "a", "g", (("box", "b"), ("plus", ONE, ("size", "l")))))
        self.rows_told("if number 1\nset a number 1\nelse\npop a l\nend", ("if", ONE, (SET,), (("pop", "a", "l"),)))
        self.rows_told("if number 1\nelse\nset a number 1\nend", ("if", ONE, (), (SET,)))
        self.rows_told("if number 1\nset a number 1\nend", ("if", ONE, (SET,), ()))
        self.rows_told("while number 1\nset a number 1\nset a number 1\nend", ("while", ONE, (SET, SET)))
        self.rows_told("try\nset a number 1\ncatch b\nend", ("try", (SET,), "b", ()))
        self.rows_told("try\ncatch b\nset a number 1\nend", ("try", (), "b", (SET,)))
        self.told("def f\nreturn number 1\nif number 1\nreturn number 1\nend\nend", (), (),
                  (("f", (), (), (RETURN, ("if", ONE, (RETURN,), ()))),), ())

    def test_each_value(self):
        for value in VALUES:
            text = value_text(value)
            self.rows_told("tell " + text, ("tell", value))
            self.rows_told(f"put l {text} {text}", ("put", "l", value, value))
            self.rows_told(f"call a g {text} not {text}", ("call", "a", "g", (value, ("not", value))))
            self.rows_told(f"while plus {text} {text}\nend", ("while", ("plus", value, value), ()))
            self.rows_told(f"if item m {text}\nend", ("if", ("item", "m", value), (), ()))

    def test_else_with_no_rows_behind_it_is_as_none(self):
        for text in ("if number 1\nelse\nend", "if number 1\n\n else \n\n# x\n   \nend"):
            self.rows_told(text, ("if", ONE, (), ()))
        self.rows_told("if number 1\nset a number 1\nelse\nend", ("if", ONE, (SET,), ()))

    def test_rows_within_rows(self):
        self.rows_told(lines("while number 1", "try", "if number 1", SET_TEXT, "end", "catch a", "if number 1", "else",
                             "while number 1", SET_TEXT, "end", SET_TEXT, "end", "end", SET_TEXT, "end", SET_TEXT),
                       ("while", ONE, (("try", (("if", ONE, (SET,), ()),), "a", (
                           ("if", ONE, (), (("while", ONE, (SET,)), SET)),)), SET)), SET)

    def test_asked_again(self):
        first = read(LONG_TEXT)
        self.no_text(LONG_TEXT + "end\n")
        self.no_text(LONG_TEXT + "if number 1\n")
        self.told("", *NOTHING)
        self.same(read(LONG_TEXT), first)
        self.same(first, LONG)


class Signs(Reading):
    def test_blanks(self):
        for row in LONG_TEXT.split("\n"):
            self.told(LONG_TEXT.replace(row + "\n", "    " + row + "  \n"), *LONG)
        self.told(LONG_TEXT.replace(" ", "   "), *LONG)
        self.told(LONG_TEXT.replace("\n", "   \n   "), *LONG)
        self.told("\n".join([line.strip() for line in LONG_TEXT.split("\n")]), *LONG)

    def test_the_last_line_end_left_out(self):
        self.told(LONG_TEXT[:-1], *LONG)
        self.told(LONG_TEXT[:-1] + "  ", *LONG)
        self.rows_told("while number 1\nend", ("while", ONE, ()))

    def test_rows_that_are_passed_over(self):
        for passed in ("", " ", "     ", "#", "# x", "#x", "  #", "   # end", "#end", "##", "# \t", "#box a", "#\t"):
            self.told(LONG_TEXT.replace("\n", "\n" + passed + "\n"), *LONG)
            self.told(passed + "\n" + LONG_TEXT + passed, *LONG)

    def test_a_number_sign_behind_words(self):
        for line in LONG_TEXT.split("\n")[:-1]:
            # Behind a def's words more names may come.
            if not line.startswith("def"):
                self.no_text(LONG_TEXT.replace(line + "\n", line + " #\n", 1))
        for row in ONE_LINE:
            self.no_text_anywhere(row + " #")
            self.no_text_anywhere(row + " # so it is")
        self.no_text_anywhere("set a number 1#")
        for opening, closing in OPENING:
            self.no_text_anywhere(lines(opening + " #", closing))
            self.no_text_anywhere(lines(opening, closing + " #"))

    def test_a_number_sign_within_a_name_is_part_of_it(self):
        self.refused(NoProgram, read, "box a# 0\n")
        self.refused(NoProgram, read, "box # 0\n")
        self.refused(NoProgram, read, "def f #\nend\n")
        self.refused(NoRow, read, HEAD + "set # number 1\n")
        self.refused(NoRow, read, HEAD + "tell box a#\n")

    def test_a_tab_is_part_of_a_word(self):
        for text in ("\t", "\tset a number 1", "set\ta number 1", "set a\tnumber 1", "set a number\t1", "set a number 1\t",
                     "set a number 1 \t", "\t# x", " \t #", "\t\n", "while number 1\t\nend", "while number 1\nend\t",
                     "while number 1\n\tend", "try\t\ncatch a\nend", "if box a\nelse\t\nend"):
            self.no_text_anywhere(text)
        self.no_text("box a\t0\n")
        self.no_text("box a 0\t\n")
        self.no_text("\tbox a 0\n")
        self.no_text("list l 1\t2\n")
        self.refused(NoProgram, read, "box \ta 0\n")
        self.refused(NoProgram, read, "list l\t\n")
        self.refused(NoRow, read, HEAD + "pop a l\t\n")
        self.refused(NoRow, read, HEAD + "ask a \t\n")

    def test_other_signs_part_neither_words_nor_rows(self):
        for sign in "\r\v\f\x1c\x1d\x1e\x85\xa0\u2028\u2029\u3000":
            self.no_text(f"box a{sign}0\n")
            self.no_text(f"box a 0{sign}")
            self.no_text(f"box a 0{sign}box b 0\n")
            self.no_text(f"{sign}\n")
            self.no_text(f"{sign}box a 0\n")
            self.told(f"# x{sign}box a\n", *NOTHING)


class Words(Reading):
    def test_names_that_are_words(self):
        words = ("set", "end", "if", "else", "box", "number")
        for one in words:
            for other in ("list", "def", "own", "try", "catch", "size"):
                text = lines(f"box {one} 3", f"list {other} 4", f"def {one} while push", "own item",
                             f"set {one} item {other} box while", "end", f"set {one} box {one}", f"pop {one} {other}",
                             f"push {other} size {other}", f"put {other} box {one} item {other} box {one}",
                             f"ask {one} {other}", f"call {one} {one} box {one} size {other}",
                             "try", f"catch {one}", "end")
                box = ("box", one)
                self.told(text, ((one, 3),), ((other, (4,)),), (
                    (one, ("while", "push"), ("item",), (("set", one, ("item", other, ("box", "while"))),)),
                ), (("set", one, box), ("pop", one, other), ("push", other, ("size", other)),
                    ("put", other, box, ("item", other, box)), ("ask", one, other),
                    ("call", one, one, (box, ("size", other))), ("try", (), one, ())))

    def test_any_word_is_read_as_a_name(self):
        for word in ("A", "abcdefg", "1", "0", "-", "a1", "@", "#", "a#", "\t", "a\tb", '"', "~", "Box", "000"):
            self.refused(NoProgram, read, f"box {word} 0\n")
            self.refused(NoProgram, read, f"list {word} 0\n")
            self.refused(NoProgram, read, f"def {word}\nend\n")
            self.refused(NoProgram, read, f"def f {word}\nend\n")
            self.refused(NoProgram, read, f"def f\nown {word}\nend\n")
            for row in (f"set {word} number 1", f"push {word} number 1", f"pop {word} l", f"pop a {word}",
                        f"put {word} number 1 number 1", f"ask {word} d", f"ask a {word}", f"tell box {word}",
                        f"tell size {word}", f"tell item {word} number 1", f"call {word} f", f"call a {word}",
                        f"try\ncatch {word}\nend"):
                self.refused(NoRow, read, HEAD + row)

    def test_numbers(self):
        for number in (0, 1, 9, 10, 12, 99999, 100000, 999999):
            self.told(f"box a {number}\nlist l {number} {number}\ntell number {number}", (("a", number),),
                      (("l", (number, number)),), (), (("tell", ("number", number)),))
        for word in ("00", "01", "007", "000000", "0000001", "1000000", "9999999", "1" * 40, "-1", "+1", "-0", "+0", "--1",
                     "1.0", "1e3", "0x1", "1_0", "1,", "a", "one", "number", "-", "1a", "a1", "1#", "#", "\t1", "1\t",
                     "\u0661", "\u00b2", "\uff11", "\u0967", "1\u0661", "\u2460"):
            self.no_text(f"box a {word}\n")
            self.no_text(f"list l {word}\n")
            self.no_text(f"list l 1 {word} 2\n")
            self.no_text_anywhere(f"tell number {word}")
            self.no_text_anywhere(f"put l number {word} number 1")
            self.no_text_anywhere(f"call a g number 1 not number {word}")

    def test_too_few_words(self):
        for row in ONE_LINE + tuple([opening for opening, closing in OPENING]) + ("return plus box a number 1",):
            words = row.split(" ")
            for count in range(1, len(words)):
                # A call that lacks whole values is program_of's to refuse.
                if not (words[0] == "call" and count in (3, 5)):
                    short = " ".join(words[:count])
                    self.no_text_anywhere(short)
                    self.no_text_anywhere(lines(short, "end"))
        for text in ("box", "box a", "list", "def", "def\nend", "def f\nown\nend"):
            self.no_text(text)
        self.no_text_anywhere("try\ncatch\nend")
        for word in ("number", "box", "size", "not", "item", "plus", "minus", "times", "over", "rest", "less", "same"):
            self.no_text_anywhere(f"tell {word}")
            self.no_text_anywhere(f"set a {word}")
            self.no_text_anywhere(f"call a f {word}")
            self.no_text_anywhere(f"call a g number 1 {word}")
            if word not in ("number", "box", "size", "not"):
                self.no_text_anywhere(f"tell {word} l")
                self.no_text_anywhere(f"tell {word} box a" if word != "item" else "tell item l box")

    def test_too_many_words(self):
        for more in ("a", "1", "number 1", "box a", "end", "x y", "#", "\t", "number"):
            for row in ONE_LINE + ("return number 1",):
                # Behind a call more values may come; how many, program_of refuses.
                if not (row.startswith("call") and more in ("number 1", "box a")):
                    self.no_text_anywhere(row + " " + more)
            for opening, closing in OPENING:
                self.no_text_anywhere(lines(opening + " " + more, closing))
                self.no_text_anywhere(lines(opening, closing + " " + more))
            self.no_text_anywhere(lines("if box a", "else " + more, "end"))
            self.no_text_anywhere(lines("try", "catch a " + more, "end"))
            self.no_text(f"box a 0 {more}\n")
            self.no_text(f"def f\nown o {more}\nend\n")
            self.no_text(f"def f\nend {more}\n")
        for more in ("a", "number 1", "01", "end"):
            self.no_text(f"list l 1 {more}\n")
            self.no_text(f"list l {more}\n")

    def test_other_words(self):
        for word in ("", "x", "SET", "Set", "sets", "se", "number", "plus", "not", "item", "size", "answer", "elseif", "elif",
                     "let", "1", "-", "End", "ends", "END", "=", "a"):
            for behind in (" a number 1", " number 1", " a l", " a d", "", " a", " a f", " l number 1 number 1"):
                if word + behind.strip() != "":
                    self.no_text_anywhere(word + behind)
        for word in ("Number", "num", "1", "a", "set", "and", "or", "list", "plus1", "+", "Box", "boxes", "end", "#"):
            self.no_text_anywhere(f"tell {word} number 1")
            self.no_text_anywhere(f"tell {word}")
            self.no_text_anywhere(f"set a plus {word} number 1")
            self.no_text_anywhere(f"call a f {word}")


class Places(Reading):
    def test_boxes_come_first_then_lists_functions_rows(self):
        sections = ("box x 0", "list y 0", "def z\nend", "tell number 1")
        for early in range(4):
            for late in range(early + 1, 4):
                read(lines(sections[early], sections[late]))
                self.no_text(lines(sections[late], sections[early]))
                self.no_text(lines(sections[early], sections[late], sections[early].replace("x", "w")))
        for row in ONE_LINE:
            for section in ("box x 0", "list y 0", "def z\nend"):
                self.no_text(HEAD + lines(row, section))
        self.no_text("while number 1\nend\nbox x 0\n")
        self.no_text("if number 1\nend\ndef f\nend\n")

    def test_several_of_each(self):
        self.told("box a 0\nbox b 0\nlist l\nlist m\ndef f\nend\ndef g\nend\ntell number 1\ntell number 1\n",
                  (("a", 0), ("b", 0)), (("l", ()), ("m", ())), (("f", (), (), ()), ("g", (), (), ())), (("tell", ONE),) * 2)

    def test_none_of_these_within_a_function_or_a_row(self):
        for text in ("box x 0", "list y 0", "def z\nend", "def z", "def f x"):
            self.no_text("def f\n" + text + "\nend\n")
            self.no_text("def f\n" + text + "\nend\nend\n")
            self.no_text("def f\nown o\n" + text + "\nend\n")
            self.no_text("def f\ntell number 1\n" + text + "\nend\n")
            for opening, closing in OPENING:
                self.no_text(HEAD + lines(opening, text, closing))
                self.no_text(HEAD + lines("def h", opening, text, closing, "end"))

    def test_own(self):
        self.told("def f\n\nown a\n# x\nown b\ntell box a\nend", (), (), (("f", (), ("a", "b"), (("tell", ("box", "a")),)),), ())
        self.told("def own own\nown x\nend", (), (), (("own", ("own",), ("x",), ()),), ())
        self.no_text_anywhere("while number 1\nown x\nend")
        for text in ("own x", "own x\ntell number 1", "tell number 1\nown x", "while number 1\nend\nown x",
                     "if number 1\nown x\nend", "if number 1\nelse\nown x\nend", "try\nown x\ncatch a\nend",
                     "try\ncatch a\nown x\nend"):
            self.no_text(HEAD + text)
        for text in ("tell number 1\nown x", "while number 1\nend\nown x", "own y\ntell number 1\nown x",
                     "while number 1\nown x\nend", "if number 1\nown x\nend", "if number 1\nelse\nown x\nend",
                     "try\nown x\ncatch a\nend", "try\ncatch a\nown x\nend"):
            self.no_text(HEAD + lines("def h", text, "end"))
        self.no_text("own x\nbox a 0\n")
        self.no_text("def f\nend\nown x\n")

    def test_an_end_too_many(self):
        for text in ("end", "end\nend", "tell number 1\nend", "while number 1\nend\nend", "if number 1\nelse\nend\nend",
                     "try\ncatch a\nend\nend", "def h\nend\nend", "box x 0\nend", "list x 0\nend", "end\ntell number 1"):
            self.no_text(text)
            self.no_text(text + "\n")
        self.no_text(HEAD + "end")
        self.no_text(LONG_TEXT + "end")

    def test_an_end_lacks(self):
        for text in ("while number 1", "if number 1", "if number 1\nelse", "try", "try\ncatch a", "def h", "def h\nown x",
                     "while number 1\ntell number 1", "while number 1\nwhile number 1\nend", "def h\nwhile number 1\nend",
                     "def h\nwhile number 1", "try\ntry\ncatch a\nend\ncatch a", "if number 1\nelse\nif number 1\nelse\nend",
                     "while number 1\n# end", "while number 1\n#end\n\n"):
            self.no_text(text)
            self.no_text(text + "\n")
            self.no_text(HEAD + text)
        self.no_text("def f\ntell number 1\ndef g\nend\n")

    def test_each_end_of_a_long_text_left_out(self):
        rows = LONG_TEXT.split("\n")
        for place, row in enumerate(rows):
            if row.strip() == "end":
                self.no_text("\n".join(rows[:place] + rows[place + 1:]))
            if row.strip() == "catch x":
                self.no_text("\n".join(rows[:place] + rows[place + 1:]))
            self.no_text("\n".join(rows[:place] + ["end"] + rows[place:]))

    def test_else(self):
        for text in ("else", "else\nend", "tell number 1\nelse", "while number 1\nelse\nend", "try\nelse\nend",
                     "try\nelse\ncatch a\nend", "try\ncatch a\nelse\nend", "if number 1\nelse\nelse\nend",
                     "if number 1\nelse\ntell number 1\nelse\nend", "if number 1\nend\nelse\nend",
                     "if number 1\nwhile number 1\nelse\nend\nend", "if number 1\nelse\nwhile number 1\nelse\nend\nend"):
            self.no_text(HEAD + text)
            self.no_text(HEAD + lines("def h", text, "end"))
        for text in ("else", "tell number 1\nelse", "if number 1\nend\nelse"):
            self.no_text(HEAD + text)
            self.no_text(HEAD + lines("def h", text, "end"))
            self.no_text(HEAD + lines("while number 1", text, "end"))
            self.no_text(HEAD + lines("try", text, "catch a", "end"))
            self.no_text(HEAD + lines("try", "catch a", text, "end"))
            self.no_text(HEAD + lines("if number 1", "else", text, "end"))

    def test_catch(self):
        for text in ("try\nend", "try\ntell number 1\nend", "try\ncatch a\ncatch a\nend",
                     "try\ncatch a\ntell number 1\ncatch b\nend", "while number 1\ncatch a\nend", "if number 1\ncatch a\nend",
                     "if number 1\nelse\ncatch a\nend", "try\nwhile number 1\ncatch a\nend\nend",
                     "try\ncatch a\nwhile number 1\ncatch a\nend\nend", "try\ncatch a\nend\ncatch a\nend"):
            self.no_text_anywhere(text)
        self.no_text(HEAD + "catch a")
        self.no_text(HEAD + "catch a\nend")
        self.no_text(HEAD + lines("def h", "catch a", "end"))
        self.no_text(HEAD + lines("try", "catch a", "catch a", "end"))


class Refused(Reading):
    def test_as_program_of_refuses(self):
        for text in (
            "box a 0\nbox a 0", "box a 0\nlist a", "list l\nlist l", lines(*[f"box {name} 0" for name in "abcdefg"]),
            lines(*[f"list {name}" for name in "abcd"]), "list l" + " 1" * 13, "def f\nend\ndef f\nend",
            lines(*[f"def {name}\nend" for name in "abcde"]), "def f a b c d\nend", "def f x x\nend",
            "def f\nown a\nown b\nown c\nown d\nend", "def f x\nown x\nend", "box a 0\ndef f a\nend",
            "list a 0\ndef f\nown a\nend",
        ):
            self.refused(NoProgram, read, text)
        for text in ("set c number 1", "set l number 1", "push a number 1", "tell box l", "tell size a", "call a k",
                     "tell not not not not box a", "ask a abcdefg"):
            self.refused(NoRow, read, HEAD + text)
            self.refused(NoRow, read, HEAD + lines("while number 1", text, "end"))
            self.refused(NoRow, read, HEAD + lines("def h", text, "end"))
        self.refused(NoRow, read, "while number 1\n" * 5 + "tell number 1\n" + "end\n" * 5)
        self.refused(TooLong, read, "tell number 1\n" * 61)
        self.refused(TooLong, read, HEAD + "tell number 1\n" * 59)
        read(HEAD + "tell number 1\n" * 58)

    def test_a_return_outside_of_functions(self):
        for text in ("return number 1", "while number 1\nreturn number 1\nend", "if number 1\nelse\nreturn number 1\nend",
                     "try\nreturn number 1\ncatch a\nend", "try\ncatch a\nreturn number 1\nend"):
            self.refused(NoRow, read, HEAD + text)
            read(HEAD + lines("def h", text, "end"))

    def test_how_many_values_a_call_has(self):
        for text in ("call a f number 1", "call a f number 1 box a", "call a g", "call a g number 1",
                     "call a g number 1 number 1 number 1", "call a g plus number 1 number 1"):
            self.refused(NoRow, read, HEAD + text)
            self.refused(NoRow, read, HEAD + lines("def h", text, "end"))

    def test_no_text_comes_ahead(self):
        no_program = "box a 0\nbox a 0\n"
        no_row = "set zz number 1\n"
        too_long = "tell number 1\n" * 61
        for wrong in ("tell\n", "end\n", "while number 1\n", "tell number 01\n", "x\n", "else\n", "tell number 1 1\n"):
            for refused in (no_program, no_row, too_long, no_program + no_row + too_long):
                self.no_text(refused + wrong)
        for wrong in ("tell\n", "end\n", "tell number 01\n", "x\n", "else\n"):
            self.no_text(wrong + no_row)
            self.no_text(wrong + too_long)
        self.no_text("box a 1000000\nbox a 0\n")
        self.no_text("box a 0\nbox a 0\nbox a -1\n")
        self.no_text("box abcdefg\n")
        self.no_text("return number 1\nend\n")
        self.no_text(HEAD + "call a f number 1 number\n")

    def test_no_program_then_no_row_then_too_long(self):
        self.refused(NoProgram, read, "box a 0\nbox a 0\nset zz number 1\n" + "tell number 1\n" * 61)
        self.refused(NoProgram, read, "box a 0\nbox a 0\n" + "tell number 1\n" * 61)
        self.refused(NoRow, read, "box a 0\nset zz number 1\n" + "tell number 1\n" * 61)
        self.refused(NoRow, read, "box a 0\n" + "tell number 1\n" * 61 + "set zz number 1\n")


class HoweverDeep(Reading):
    def test_values(self):
        for depth in (4, 5, 100, 1000, 5000):
            deep = "not " * (depth - 1) + "number 1"
            right = "plus number 0 " * (depth - 1) + "number 1"
            left = "plus " * (depth - 1) + "number 1" + " number 0" * (depth - 1)
            for text in (deep, right, left, "item l " * (depth - 1) + "size m"):
                for row in ("tell ", "set a ", "put l number 0 ", "while number 1\ntell ", "call a g number 1 "):
                    closing = "\nend" if row.startswith("while") else ""
                    if depth == 4:
                        read(HEAD + row + text + closing)
                    else:
                        self.refused(NoRow, read, HEAD + row + text + closing)
                        self.refused(NoRow, read, HEAD + lines("def h", row + text + closing, "end"))
            self.no_text(HEAD + "tell " + deep + " 1")
            self.no_text(HEAD + "tell " + right + " number 1")
            self.no_text(HEAD + "tell " + left + " number 1")
            self.no_text(HEAD + "tell " + deep[:-2])
            self.no_text(HEAD + "tell " + deep + "\nend")
            self.no_text(HEAD + "tell " + right[:-len(" number 1")])
            self.no_text(HEAD + "tell " + left[:-len(" number 0")])
            self.no_text(HEAD + "tell " + deep + "\ntell number 01")

    def test_rows(self):
        for depth in (5, 6, 100, 1000, 5000):
            for opening, closing in (("while number 1\n", "end\n"), ("if number 1\n", "end\n"), ("try\n", "catch a\nend\n"),
                                     ("if number 1\nelse\n", "end\n"), ("try\ncatch a\n", "end\n"),
                                     ("if number 1\n", "else\nend\n")):
                text = opening * (depth - 1) + "tell number 1\n" + closing * (depth - 1)
                if depth == 5:
                    read(HEAD + text)
                    read(HEAD + "def h\n" + text + "end\n")
                else:
                    self.refused(NoRow, read, HEAD + text)
                    self.refused(NoRow, read, HEAD + "def h\n" + text + "end\n")
                self.no_text(HEAD + text + "end\n")
                self.no_text(HEAD + text[:-len("end\n")])
                self.no_text(HEAD + opening + text)
                self.no_text(HEAD + text + "x\n")
                self.no_text(HEAD + text.replace("tell number 1", "tell number 1 1"))
                self.no_text(HEAD + text.replace("tell number 1", "own x"))

    def test_far_deeper(self):
        self.refused(NoRow, read, "tell " + "plus number 1 " * 100000 + "number 1")
        self.refused(NoRow, read, "while number 1\n" * 100000 + "end\n" * 100000)

    def test_deep_rows_of_deep_values(self):
        row = "while " + "not " * 2000 + "number 1\n"
        self.refused(NoRow, read, row * 50 + "end\n" * 50)
        self.no_text(row * 50 + "end\n" * 49)
        self.no_text(row * 50 + "end\n" * 51)

    def test_blanks_ahead_of_deep_rows(self):
        opening = "".join([" " * depth + "while number 1\n" for depth in range(2000)])
        self.refused(NoRow, read, opening + "end\n" * 2000)
        self.no_text(opening + "end\n" * 1999)

    def test_deep_and_wrong_by_a_part(self):
        deep = "while number 1\n" * 3000 + "end\n" * 3000
        self.refused(NoProgram, read, "box a 0\nbox a 0\n" + deep)
        self.refused(NoRow, read, "tell number 1\n" * 61 + deep)


WORLD = (("aa", (0, 5, 999999)), ("b", ()), ("door", (7,)))
WORLD_TEXT = "answer aa 0 5 999999\nanswer b\nanswer door 7\n"


class Worlds(Refusing):
    def told(self, text, world):
        self.same(read_world(text), world)

    def no_text(self, text):
        self.refused(NoText, read_world, text)

    def no_world(self, text):
        self.refused(NoWorld, read_world, text)

    def test_written(self):
        for world, text in (((), ""), (WORLD, WORLD_TEXT), ((("d", ()),), "answer d\n"), ((("d", (3, 0)),), "answer d 3 0\n"),
                            ((("answer", (10,)), ("b", (1,) * 40)), "answer answer 10\nanswer b" + " 1" * 40 + "\n")):
            self.assertEqual(written_world(world), text)
            self.assertIs(type(written_world(world)), str)
            self.told(text, world)

    def test_what_is_written_is_read_to_the_same(self):
        for seed in range(100):
            maker = Maker(seed)
            world = tuple([(door, maker.numbers(40)) for door in sorted(maker.names(seed % 6, ()))])
            self.told(written_world(world), world)

    def test_nothing(self):
        for text in ("", "\n", "\n\n", "  ", "#", "# answer\n", "  #x\n \n"):
            self.told(text, ())

    def test_what_is_told_is_a_tuple(self):
        for text in ("", WORLD_TEXT):
            self.assertIs(type(read_world(text)), tuple)

    def test_blanks_and_rows_passed_over(self):
        self.told(WORLD_TEXT[:-1], WORLD)
        self.told(WORLD_TEXT[:-1] + "   ", WORLD)
        self.told(WORLD_TEXT.replace(" ", "    "), WORLD)
        self.told(WORLD_TEXT.replace("\n", "   \n   "), WORLD)
        for passed in ("", "   ", "#", "# x", "#x", "   # answer", "##"):
            self.told(WORLD_TEXT.replace("\n", "\n" + passed + "\n"), WORLD)
            self.told(passed + "\n" + WORLD_TEXT, WORLD)

    def test_other_words(self):
        for word in ("x", "Answer", "ANSWER", "answers", "box", "list", "end", "1", "\t", "\tanswer", "answer\t", "\t#"):
            self.no_text(word)
            self.no_text(f"{word} d 1\n")
            self.no_text(WORLD_TEXT + f"{word} e 1\n")
            self.no_text(f"{word} a 1\n" + WORLD_TEXT)

    def test_words_that_lack(self):
        for text in ("answer", "answer\n", " answer \n", WORLD_TEXT + "answer", "answer\n" + WORLD_TEXT):
            self.no_text(text)

    def test_numbers_not_written_so(self):
        for number in (0, 1, 10, 999999):
            self.told(f"answer d {number} 0 {number}\n", (("d", (number, 0, number)),))
        for word in ("00", "01", "000000", "1000000", "0999999", "-1", "+1", "a", "1.0", "1\t", "\t", "#", "1#", "number",
                     "\u0661", "\u00b2"):
            self.no_text(f"answer d {word}\n")
            self.no_text(f"answer d 1 {word} 2\n")
            self.no_text(f"answer d 1 {word}")
        self.no_text("answer d 1 # x\n")
        self.no_text("answer d # x\n")

    def test_line_ends_and_blanks_alone_part(self):
        for sign in "\t\r\v\f\x1c\x85\xa0\u2028":
            self.no_text(f"answer d 1{sign}2\n")
            self.no_text(f"answer d 1{sign}answer e 1\n")
            self.no_text(f"answer{sign}d 1\n")

    def test_as_world_of_refuses(self):
        for text in ("answer b\nanswer a\n", "answer a\nanswer a\n", "answer a 1\nanswer b\nanswer a 2\n",
                     lines(*[f"answer {door}" for door in "abcdef"]), "answer d" + " 1" * 41):
            self.no_world(text)
        for word in ("A", "abcdefg", "1", "d1", "#", "d#", "\t", "d\t", "~"):
            self.no_world(f"answer {word} 1\n")
            self.no_world(f"answer {word}")

    def test_no_text_comes_ahead(self):
        for refused in ("answer b\nanswer a\n", "answer A 1\n", lines(*[f"answer {door}" for door in "abcdef"]),
                        "answer d" + " 1" * 41 + "\n"):
            for wrong in ("answer\n", "answer z 01\n", "x\n", "answer z 1000000\n"):
                self.no_text(refused + wrong)
                self.no_text(wrong + refused)
        self.no_text("answer A 01\n")
        self.no_text("answer d" + " 1" * 41 + " x")

    def test_asked_again(self):
        world = read_world(WORLD_TEXT)
        shown = repr(world)
        self.no_text("answer")
        self.told("", ())
        self.assertEqual(written_world(world), WORLD_TEXT)
        self.assertEqual(repr(world), shown)
        self.told(WORLD_TEXT, WORLD)


if __name__ == "__main__":
    unittest.main()
