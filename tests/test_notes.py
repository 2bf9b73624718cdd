"""Cells, reads and writes, and the note of a step [3.5] [3.6]."""
import unittest

from running import Running, note_of, owns, walked

HEAD = "box a 4\nbox b 0\nlist l 1 2 3\nlist m\nlist n 1 2 3 4 5 6 7 8 9 10 11 12\n"
A, B = ("box", "a"), ("box", "b")
L, M, N = ("list", "l"), ("list", "m"), ("list", "n")


class Noting(Running):
    def notes(self, row, kind, reads, wrote, catcher=-1, step=1, number=0, caller=-1, head=HEAD):
        found = note_of(head + row + "\n", step)
        self.same(tuple(found), (number, kind, reads, wrote, caller, catcher))

    def plain(self, row, reads, wrote):
        self.notes(row, "plain", reads, wrote)


class Plain(Noting):
    def test_set(self):
        self.plain("set a number 1", (), (A,))
        self.plain("set a box b", (B,), (A,))
        self.plain("set a box a", (A,), (A,))

    def test_push(self):
        self.plain("push l number 1", (L,), (L,))
        self.plain("push l box b", (B, L), (L,))
        self.plain("push m item l number 1", (L, M), (M,))

    def test_pop(self):
        self.plain("pop b l", (L,), (B, L))

    def test_put(self):
        self.plain("put l number 0 number 1", (L,), (L,))
        self.plain("put l box b plus box a size m", (A, B, L, M), (L,))

    def test_ask(self):
        self.plain("ask b d", (), (B,))

    def test_tell(self):
        self.plain("tell number 1", (), ())
        self.plain("tell box a", (A,), ())

    def test_if_and_while(self):
        for word in ("if", "while"):
            self.plain(f"{word} number 0\nend", (), ())
            self.plain(f"{word} less box b size l\ntell box a\nend", (B, L), ())

    def test_within_a_try(self):
        self.notes("try\nset a box b\ncatch b\nend", "plain", (B,), (A,), number=1)

    def test_a_write_of_the_same_value_is_one_too(self):
        self.plain("set a number 4", (), (A,))
        self.plain("put l number 0 number 1", (L,), (L,))
        self.plain("ask b d", (), (B,))
        self.notes("pop b l", "plain", (L,), (B, L), head="box b 3\nlist l 3\n")


class Reading(Noting):
    def reads(self, value, *cells):
        self.plain(f"tell {value}", cells, ())

    def test_each_form_of_value(self):
        self.reads("number 1")
        self.reads("box a", A)
        self.reads("size m", M)
        self.reads("not box b", B)
        self.reads("item l number 0", L)
        self.reads("item l box b", B, L)
        for word in ("plus", "minus", "times", "less", "same"):
            self.reads(f"{word} box a box b", A, B)
        for word in ("over", "rest"):
            self.reads(f"{word} box b box a", A, B)

    def test_rising_and_each_once(self):
        self.reads("plus box b box a", A, B)
        self.reads("plus size n plus item l box b box a", A, B, L, N)
        self.reads("plus plus box a box a plus box a size l", A, L)
        self.reads("plus plus size l size l item l number 0", L)

    def test_both_parts_whatever_the_first_one_is(self):
        self.reads("times box b box a", A, B)
        self.reads("less number 0 box a", A)

    def test_a_box_and_a_list_are_cells_of_two_kinds(self):
        text = "box b 1\nbox z 1\nlist a 5\nlist y 6\ntell plus plus size y size a plus box z box b\n"
        self.assertEqual(note_of(text, 1).reads, (("box", "b"), ("box", "z"), ("list", "a"), ("list", "y")))


class Owning(Noting):
    HEAD = "box a 4\nbox b 0\nlist l 1 2 3\n"

    def in_function(self, rows, step, **expected):
        text = self.HEAD + f"def f p q\nown o\n{rows}\nend\ncall a f number 1 number 2\n"
        found = note_of(text, step + 1)
        for name, thing in expected.items():
            self.same(getattr(found, name), thing)

    def test_a_call_writes_all_cells_of_its_new_frame(self):
        text = self.HEAD + "def f p q\nown o\nown n\nend\ncall a f box b number 2\n"
        self.same(tuple(note_of(text, 1)), (1, "call", (B,), owns(1, "nopq"), -1, -1))

    def test_a_call_of_a_function_without_params_and_owns_writes_nothing(self):
        self.same(tuple(note_of(self.HEAD + "def f\nend\ncall a f\n", 1)), (1, "call", (), (), -1, -1))

    def test_a_call_in_a_function(self):
        text = self.HEAD + "def f p\ncall p g plus box p box b\nend\ndef g q\nown o\ntell box q\nend\ncall a f number 1\n"
        self.same(tuple(note_of(text, 2)), (1, "call", (B,) + owns(1, "p"), owns(2, "oq"), 4, -1))
        self.same(tuple(note_of(text, 3)), (3, "plain", owns(2, "q"), (), 1, -1))

    def test_params_and_owns_are_read_and_written_by_their_depth(self):
        self.in_function("set o plus box p box a", 1, row=1, kind="plain", reads=(A,) + owns(1, "p"), wrote=owns(1, "o"))
        self.in_function("set p box q", 1, reads=owns(1, "q"), wrote=owns(1, "p"))
        self.in_function("set a box o", 1, reads=owns(1, "o"), wrote=(A,))
        self.in_function("ask o d", 1, reads=(), wrote=owns(1, "o"))
        self.in_function("pop q l", 1, reads=(L,), wrote=(L,) + owns(1, "q"))
        self.in_function("push l box p", 1, reads=(L,) + owns(1, "p"), wrote=(L,))
        self.in_function("return box q", 1, kind="return", reads=owns(1, "q"), wrote=(A,), caller=2)

    def test_by_the_depths_of_a_function_that_calls_itself(self):
        text = "box a 0\ndef f p\nset p plus box p number 1\ncall p f box p\nend\ncall a f number 0\n"
        states, notes = walked(text)
        self.assertEqual([note.wrote for note in notes if note.row == 1], [owns(depth, "p") for depth in range(1, 8)])
        self.assertEqual([note.reads for note in notes if note.row == 1], [owns(depth, "p") for depth in range(1, 8)])
        self.assertEqual([note.caller for note in notes], [-1] + [3, 3] + [2, 2] * 6)

    def test_return_writes_the_calling_rows_box(self):
        text = self.HEAD + "def f p\nreturn plus box p box b\nend\ncall a f number 1\n"
        self.same(tuple(note_of(text, 2)), (1, "return", (B,) + owns(1, "p"), (A,), 2, -1))

    def test_return_writes_the_calling_frames_own(self):
        for name, cell in (("p", ("own", 1, "p")), ("o", ("own", 1, "o")), ("b", B)):
            text = self.HEAD + f"def f p\nown o\ncall {name} g\nend\ndef g p\nown o\nreturn box o\nend\ncall a f number 1\n"
            text = text.replace("g\nend", "g box p\nend")
            self.same(tuple(note_of(text, 3)), (3, "return", owns(2, "o"), (cell,), 1, -1))

    def test_off(self):
        text = self.HEAD + "def f p\ntell box p\nend\ncall b f box a\n"
        self.same(tuple(note_of(text, 3)), (0, "off", (), (B,), 2, -1))

    def test_off_of_a_function_without_rows(self):
        self.same(tuple(note_of(self.HEAD + "def g\nend\ndef f p\nend\ncall b f box a\n", 2)), (1, "off", (), (B,), 2, -1))

    def test_off_in_a_function(self):
        for name, cell in (("p", ("own", 1, "p")), ("o", ("own", 1, "o")), ("b", B)):
            text = self.HEAD + f"def f p\nown o\ncall {name} g\nend\ndef g o\nend\ncall a f number 1\n"
            text = text.replace("g\nend", "g box p\nend")
            self.same(tuple(note_of(text, 3)), (2, "off", (), (cell,), 1, -1))
            self.same(tuple(note_of(text, 4)), (0, "off", (), (A,), 3, -1))

    def test_caller_is_the_calling_row_of_the_rows_frame(self):
        text = "box a 0\ndef f\ntell box a\nend\ncall a f\ncall a f\ntell box a\n"
        states, notes = walked(text)
        self.assertEqual([(note.row, note.caller) for note in notes],
                         [(2, -1), (1, 2), (0, 2), (3, -1), (1, 3), (0, 3), (4, -1)])


class Faults(Noting):
    """What a fault reads, up to where it is met, and what it writes."""

    def fault(self, row, *reads):
        self.notes(row, "fault", reads, ())
        self.notes(f"try\n{row}\ncatch b\nend", "fault", reads, (B,), catcher=0, number=1)

    def test_up_to_where_the_values_fault_is_met(self):
        self.fault("set a over box a box b", A, B)
        self.fault("set a rest size l number 0", L)
        self.fault("set a plus over number 1 number 0 box a")
        self.fault("set a plus box a over size m number 0", A, M)
        self.fault("set a plus over box a number 0 box b", A)
        self.fault("set a over over box a number 0 box b", A)

    def test_an_item_reads_its_list_behind_its_place(self):
        self.fault("set a item l number 3", L)
        self.fault("set a item m box b", B, M)
        self.fault("set a item l over box a number 0", A)
        self.fault("set a item l item m box b", B, M)

    def test_put_reads_its_list_behind_its_values(self):
        self.fault("put l number 3 box a", A, L)
        self.fault("put m size l box b", B, L, M)
        self.fault("put l over box a number 0 box b", A)
        self.fault("put l box a over box b number 0", A, B)

    def test_push_reads_its_list_behind_its_value(self):
        self.fault("push n box a", A, N)
        self.fault("push n over box a number 0", A)
        self.fault("push l item m number 0", M)

    def test_pop_reads_its_list(self):
        self.fault("pop a m", M)

    def test_fail(self):
        self.fault("fail number 1")
        self.fault("fail plus box a size l", A, L)
        self.fault("fail over box a box b", A, B)

    def test_if_while_and_tell(self):
        self.fault("if over box a box b\nend", A, B)
        self.fault("while item l box a\nend", A, L)
        self.fault("tell rest box a number 0", A)

    def test_a_calls_values(self):
        head = HEAD + "def f p q\nend\n"
        self.notes("call a f box b over box a number 0", "fault", (A, B), (), number=1, head=head)
        self.notes("call a f over box a number 0 box b", "fault", (A,), (), number=1, head=head)
        self.notes("try\ncall a f over box a number 0 box b\ncatch a\nend", "fault", (A,), (A,), 1, number=2, head=head)

    def test_a_call_at_eight_frames(self):
        text = "box a 0\nbox b 0\ndef f p\ncall p f plus box p box b\nend\n"
        self.same(tuple(note_of(text + "call a f box a\n", 8)), (1, "fault", (B,) + owns(7, "p"), (), 1, -1))
        self.same(tuple(note_of(text + "try\ncall a f box a\ncatch b\nend\n", 8)),
                  (1, "fault", (B,) + owns(7, "p"), (B,), 1, 2))

    def test_a_return_that_meets_a_fault(self):
        text = "box a 0\nbox b 0\ndef f p\nreturn over box p box b\nend\n"
        self.same(tuple(note_of(text + "call a f number 3\n", 2)), (1, "fault", (B,) + owns(1, "p"), (), 2, -1))
        self.same(tuple(note_of(text + "try\ncall a f number 3\ncatch b\nend\n", 2)),
                  (1, "fault", (B,) + owns(1, "p"), (B,), 3, 2))

    def test_the_trys_box_that_is_an_own(self):
        text = "box a 0\ndef f p\nown o\ntry\nfail box p\ncatch o\nend\nend\ncall a f number 3\n"
        self.same(tuple(note_of(text, 2)), (2, "fault", owns(1, "p"), owns(1, "o"), 3, 1))

    def test_the_trys_box_in_a_frame_ahead(self):
        text = ("box a 0\ndef f p\nown o\ntry\ncall p g\ncatch o\nend\nend\ndef g\nown o\ncall o h\nend\ndef h\nown o\n"
                "fail box o\nend\ncall a f number 3\n")
        self.same(tuple(note_of(text, 4)), (6, "fault", owns(3, "o"), owns(1, "o"), 4, 1))

    def test_the_innermost_trys_number(self):
        text = "box a 0\ntry\ntry\ntry\nfail number 1\ncatch a\nfail number 2\nend\ncatch a\nfail number 3\nend\ncatch a\nend\n"
        self.assertEqual([note.catcher for note in walked(text)[1]], [2, 1, 0])

    def test_a_callers_number_where_the_frame_goes(self):
        text = "box a 0\ndef f\nfail number 1\nend\ntell box a\ncall a f\n"
        self.assertEqual(note_of(text, 3).caller, 3)


class Kinds(Noting):
    def test_each_kind(self):
        text = ("box a 0\ndef f\nreturn number 1\nend\ndef g\nend\ncall a f\ncall a g\ntry\nfail number 1\ncatch a\nend\n"
                "tell box a\nfail number 2\n")
        self.assertEqual([note.kind for note in walked(text)[1]],
                         ["call", "return", "call", "off", "fault", "plain", "fault"])


if __name__ == "__main__":
    unittest.main()
