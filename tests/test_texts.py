"""Programs, rows and values written as texts [2.1], and that nothing is changed by it [0.1]."""
import copy
import unittest

from samples import BOXES, FUNCTIONS, LISTS, NOTHING, ONE, RETURN, SET, TELL, TWO_VALUES, Maker
from retrace.programs import program_of
from retrace.texts import row_text, value_text, written

# Each form of value, and how it is written.
VALUE_TEXTS = (
    (("number", 0), "number 0"),
    (("number", 7), "number 7"),
    (("number", 10), "number 10"),
    (("number", 999999), "number 999999"),
    (("box", "x"), "box x"),
    (("box", "abcdef"), "box abcdef"),
    (("size", "l"), "size l"),
    (("not", ("box", "x")), "not box x"),
    (("item", "l", ("number", 3)), "item l number 3"),
    (("plus", ("number", 1), ("box", "x")), "plus number 1 box x"),
    (("minus", ("box", "x"), ("number", 1)), "minus box x number 1"),
    (("times", ("number", 2), ("number", 3)), "times number 2 number 3"),
    (("over", ("number", 2), ("number", 3)), "over number 2 number 3"),
    (("rest", ("number", 2), ("number", 3)), "rest number 2 number 3"),
    (("less", ("number", 2), ("size", "l")), "less number 2 size l"),
    (("same", ("size", "l"), ("number", 3)), "same size l number 3"),
    (("plus", ("item", "l", ("not", ONE)), ("minus", ("box", "x"), ("size", "m"))),
     "plus item l not number 1 minus box x size m"),
    (("not", ("not", ("not", ("box", "box")))), "not not not box box"),
    (("item", "item", ("size", "size")), "item item size size"),
)

# Each form of row, and its first line.
ROW_TEXTS = (
    (("set", "b", ("number", 5)), "set b number 5"),
    (("set", "b", ("plus", ("box", "b"), ONE)), "set b plus box b number 1"),
    (("push", "l", ("box", "b")), "push l box b"),
    (("pop", "b", "l"), "pop b l"),
    (("put", "l", ("number", 0), ("size", "l")), "put l number 0 size l"),
    (("ask", "b", "door"), "ask b door"),
    (("tell", ("not", ("box", "b"))), "tell not box b"),
    (("fail", ("number", 9)), "fail number 9"),
    (("call", "b", "f", ()), "call b f"),
    (("call", "b", "f", (ONE,)), "call b f number 1"),
    (("call", "b", "f", (ONE, ("box", "x"), ("plus", ONE, ("size", "l")))), "call b f number 1 box x plus number 1 size l"),
    (("return", ("item", "l", ONE)), "return item l number 1"),
    (("if", ("box", "b"), (), ()), "if box b"),
    (("if", ("box", "b"), (SET,), (TELL,)), "if box b"),
    (("while", ("less", ("box", "b"), ONE), (SET, TELL)), "while less box b number 1"),
    (("try", (), "b", ()), "try"),
    (("try", (SET,), "b", (TELL,)), "try"),
    (("def", "f"), "def f"),
    (("def", "def"), "def def"),
)

# All there is to be written, and every blank of it.
LONG = (
    (("x", 0), ("abcdef", 999999)),
    (("l", (3, 0, 12)), ("m", ()), ("n", (7,))),
    (
        ("f", (), (), ()),
        ("g", ("p", "q"), ("o", "oo"), (
            ("while", ("box", "p"), (
                ("if", ("box", "q"), (
                    ("try", (("return", ("box", "o")),), "q", (("tell", ONE),)),
                ), (
                    ("set", "oo", ("number", 20)),
                    ("pop", "p", "l"),
                )),
            )),
            ("return", ("number", 0)),
        )),
        ("h", ("r",), (), (("fail", ("box", "r")),)),
        ("i", (), ("s",), ()),
    ),
    (
        ("ask", "x", "door"),
        ("if", ("box", "x"), (("push", "m", ("box", "x")),), ()),
        ("if", ("box", "x"), (), (("put", "l", ("number", 0), ("box", "x")),)),
        ("if", ("box", "x"), (), ()),
        ("while", ("number", 0), ()),
        ("try", (), "x", ()),
        ("try", (("try", (("if", ONE, (("while", ONE, (("tell", ONE),)),), ()),), "x", ()),), "abcdef", (
            ("try", (), "x", (("call", "x", "g", (("size", "l"), ("not", ("box", "x")))),)),
        )),
        ("call", "x", "f", ()),
    ),
)
LONG_TEXT = """\
box x 0
box abcdef 999999
list l 3 0 12
list m
list n 7
def f
end
def g p q
  own o
  own oo
  while box p
    if box q
      try
        return box o
      catch q
        tell number 1
      end
    else
      set oo number 20
      pop p l
    end
  end
  return number 0
end
def h r
  fail box r
end
def i
  own s
end
ask x door
if box x
  push m box x
end
if box x
else
  put l number 0 box x
end
if box x
end
while number 0
end
try
catch x
end
try
  try
    if number 1
      while number 1
        tell number 1
      end
    end
  catch x
  end
catch abcdef
  try
  catch x
    call x g size l not box x
  end
end
call x f
"""


class Values(unittest.TestCase):
    def test_each_form(self):
        for value, text in VALUE_TEXTS:
            self.assertEqual(value_text(value), text)
            self.assertIs(type(value_text(value)), str)

    def test_each_form_within_each_other(self):
        for one, first in VALUE_TEXTS:
            self.assertEqual(value_text(("not", one)), "not " + first)
            self.assertEqual(value_text(("item", "m", one)), "item m " + first)
            for other, second in VALUE_TEXTS:
                for word in TWO_VALUES:
                    self.assertEqual(value_text((word, one, other)), word + " " + first + " " + second)

    def test_somewhat_deeper_than_values_stand(self):
        for depth in (5, 9, 3000):
            value = ("box", "x")
            for _ in range(depth - 1):
                value = ("plus", ONE, value)
            self.assertEqual(value_text(value), "plus number 1 " * (depth - 1) + "box x")


class Rows(unittest.TestCase):
    def test_each_form(self):
        for row, text in ROW_TEXTS:
            self.assertEqual(row_text(row), text)
            self.assertIs(type(row_text(row)), str)

    def test_each_value_in_a_row(self):
        for value, text in VALUE_TEXTS:
            for word in ("tell", "fail", "return"):
                self.assertEqual(row_text((word, value)), word + " " + text)
            self.assertEqual(row_text(("if", value, (SET,), (SET,))), "if " + text)
            self.assertEqual(row_text(("while", value, (SET,))), "while " + text)
            self.assertEqual(row_text(("set", "b", value)), "set b " + text)
            self.assertEqual(row_text(("push", "l", value)), "push l " + text)
            self.assertEqual(row_text(("put", "l", value, ONE)), "put l " + text + " number 1")
            self.assertEqual(row_text(("put", "l", ONE, value)), "put l number 1 " + text)
            self.assertEqual(row_text(("call", "b", "f", (value, ONE, value))), f"call b f {text} number 1 {text}")

    def test_rows_within_are_not_written_there(self):
        deep = ("while", ONE, (("if", ONE, (SET,), (TELL,)),))
        self.assertEqual(row_text(("if", ("box", "x"), (deep, deep), (deep,))), "if box x")
        self.assertEqual(row_text(("while", ("box", "x"), (deep, deep))), "while box x")
        self.assertEqual(row_text(("try", (deep, deep), "x", (deep,))), "try")


class Written(unittest.TestCase):
    def told(self, program, text):
        self.assertEqual(program_of(*program), program)
        self.assertEqual(written(program), text)

    def test_a_program_of_nothing(self):
        self.told(NOTHING, "")

    def test_all_there_is(self):
        self.told(LONG, LONG_TEXT)

    def test_boxes(self):
        self.told(((("b", 0), ("a", 10), ("box", 999999)), (), (), ()), "box b 0\nbox a 10\nbox box 999999\n")

    def test_lists(self):
        self.told(((), (("m", (1, 0, 22)), ("l", ()), ("list", (5,))), (), ()), "list m 1 0 22\nlist l\nlist list 5\n")

    def test_functions(self):
        self.told(((), (), (("g", (), (), ()), ("f", ("y", "x", "z"), (), ()), ("e", (), ("y", "x"), ())), ()),
                  "def g\nend\ndef f y x z\nend\ndef e\n  own y\n  own x\nend\n")

    def test_a_function_s_rows(self):
        self.told(((), (), (("f", ("x",), ("y",), (("set", "y", ("box", "x")), RETURN)),), ()),
                  "def f x\n  own y\n  set y box x\n  return number 1\nend\n")

    def test_each_row_of_one_line_in_the_program_and_in_a_function(self):
        boxes = (("b", 0), ("x", 1))
        lists = (("l", ()), ("m", ()), ("item", ()))
        for row, text in ROW_TEXTS:
            if row[0] not in ("if", "while", "try", "def", "return"):
                self.assertEqual(written((boxes, lists, FUNCTIONS, (row, row)))[-2 * len(text) - 2:], f"{text}\n{text}\n")
                function = ("h", (), (), (row, row))
                self.assertEqual(written((boxes, (), (function,), ())),
                                 f"box b 0\nbox x 1\ndef h\n  {text}\n  {text}\nend\n")

    def test_else_only_where_there_are_second_rows(self):
        for first, second, text in (
            ((), (), "if number 1\nend\n"),
            ((SET,), (), "if number 1\n  set a number 1\nend\n"),
            ((), (SET,), "if number 1\nelse\n  set a number 1\nend\n"),
            ((SET, TELL), (TELL, SET),
             "if number 1\n  set a number 1\n  tell box a\nelse\n  tell box a\n  set a number 1\nend\n"),
        ):
            self.told(((("a", 0),), (), (), (("if", ONE, first, second),)), "box a 0\n" + text)

    def test_catch_always(self):
        for first, second, text in (
            ((), (), "try\ncatch a\nend\n"),
            ((SET,), (), "try\n  set a number 1\ncatch a\nend\n"),
            ((), (SET,), "try\ncatch a\n  set a number 1\nend\n"),
            ((SET, TELL), (TELL, SET), "try\n  set a number 1\n  tell box a\ncatch a\n  tell box a\n  set a number 1\nend\n"),
        ):
            self.told(((("a", 0),), (), (), (("try", first, "a", second),)), "box a 0\n" + text)

    def test_while(self):
        self.told(((("a", 0),), (), (), (("while", ONE, ()), ("while", ("box", "a"), (SET, TELL)))),
                  "box a 0\nwhile number 1\nend\nwhile box a\n  set a number 1\n  tell box a\nend\n")

    def test_five_deep_in_a_function(self):
        row = SET
        for _ in range(2):
            row = ("if", ONE, (), (("while", ONE, (row,)),))
        text = ["if number 1", "else", "  while number 1", "    if number 1", "    else", "      while number 1",
                "        set a number 1", "      end", "    end", "  end", "end"]
        self.told(((("a", 0),), (), (), (row,)), "box a 0\n" + "\n".join(text) + "\n")
        self.told(((("a", 0),), (), (("f", (), (), (row,)),), ()),
                  "box a 0\ndef f\n" + "".join(["  " + line + "\n" for line in text]) + "end\n")

    def test_somewhat_more_than_a_program_has(self):
        boxes = tuple([("b" * count, count) for count in range(1, 10)])
        self.assertEqual(written((boxes, (), (), (SET,) * 70)),
                         "".join([f"box {name} {number}\n" for name, number in boxes]) + "set a number 1\n" * 70)
        row = ("tell", ONE)
        for _ in range(7):
            row = ("while", ONE, (row,))
        lines = ["  " * depth + "while number 1\n" for depth in range(7)]
        ends = ["  " * depth + "end\n" for depth in reversed(range(7))]
        self.assertEqual(written(((), (), (), (row,))), "".join(lines + ["  " * 7 + "tell number 1\n"] + ends))

    def test_no_line_is_empty_and_no_blank_stands_behind(self):
        for seed in range(200):
            text = written(Maker(seed).program())
            self.assertTrue(text == "" or text.endswith("\n"))
            for line in text.split("\n")[:-1]:
                self.assertNotEqual(line, "")
                self.assertEqual(line, line.rstrip())
                self.assertEqual(line.split(), line.lstrip().split(" "))


class NothingChanged(unittest.TestCase):
    def test_what_is_handed_in_stays_and_is_written_again_the_same(self):
        for program in (LONG, NOTHING, (BOXES, LISTS, FUNCTIONS, (SET,))):
            kept, shown = copy.deepcopy(program), repr(program)
            first = written(program)
            for row in program[3]:
                row_text(row)
            self.assertEqual(written(program), first)
            self.assertEqual(program, kept)
            self.assertEqual(repr(program), shown)


if __name__ == "__main__":
    unittest.main()
