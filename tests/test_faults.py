"""Faults: which number each has, which try catches, and what is left where none does [3.4]."""
import unittest

from running import Running, behind, end, note_of, walked

HEAD = "box a 4\nbox b 0\nlist l 1 2 3\nlist m\nlist n 1 2 3 4 5 6 7 8 9 10 11 12\n"
# A function that calls itself for ever, and one in whose eighth frame a call is tried.
DEEP = "def f\ncall a f\nend\n"


class Numbers(Running):
    """The number that a fault has: it is told behind the catch."""

    def fault(self, row, number, head=HEAD):
        states, notes = walked(head + f"try\n{row}\ncatch b\ntell box b\nend\n")
        self.assertEqual((states[-1].told, states[-1].word), ((number,), "done"))
        self.assertEqual(notes[-2].kind, "fault")
        # Nothing else of the step is done.
        ahead, behind = states[-3], states[-2]
        self.same((behind.boxes[0], behind.lists, behind.told, behind.asked),
                  (ahead.boxes[0], ahead.lists, ahead.told, ahead.asked))

    def no_fault(self, row, head=HEAD):
        self.assertEqual(end(head + row + "\n").word, "done")

    def test_over_and_rest_by_0(self):
        for word in ("over", "rest"):
            for one in (0, 1, 999999):
                self.fault(f"set a {word} number {one} number 0", 1)
                self.fault(f"set a {word} number {one} box b", 1)
                self.no_fault(f"set a {word} number {one} number 1")
            self.no_fault(f"set a {word} number 0 number 5")

    def test_item_beyond_the_list(self):
        self.fault("set a item l number 3", 2)
        self.fault("set a item l number 999999", 2)
        self.fault("set a item m number 0", 2)
        self.fault("set a item n number 12", 2)
        self.fault("set a item l minus number 0 number 1", 2)
        self.no_fault("set a item l number 2")
        self.no_fault("set a item n number 11")

    def test_put_beyond_the_list(self):
        self.fault("put l number 3 number 9", 2)
        self.fault("put l number 999999 number 9", 2)
        self.fault("put m number 0 number 9", 2)
        self.fault("put n number 12 number 9", 2)
        self.no_fault("put l number 2 number 9")
        self.no_fault("put n number 11 number 9")

    def test_push_at_12_things(self):
        self.fault("push n number 9", 3)
        self.no_fault("push l number 9")
        self.no_fault("push l number 9", "list l 1 2 3 4 5 6 7 8 9 10 11\n")

    def test_pop_of_an_empty_list(self):
        self.fault("pop a m", 4)
        self.no_fault("pop a l")
        self.no_fault("pop a l", "box a 0\nlist l 1\n")

    def test_fails_value_is_the_number(self):
        for number in (0, 1, 5, 6, 999999):
            self.fault(f"fail number {number}", number)
        self.fault("fail plus box a box a", 8)

    def test_a_call_at_eight_frames(self):
        text = "box a 0\nbox b 0\n" + DEEP + "try\ncall a f\ncatch b\ntell box b\nend\n"
        states, notes = walked(text)
        self.assertEqual([len(state.frames) for state in states], [1, 2, 3, 4, 5, 6, 7, 8, 1, 1])
        self.assertEqual([note.kind for note in notes], ["call"] * 7 + ["fault", "plain"])
        self.assertEqual((states[-1].told, states[-1].boxes, states[-1].word), ((5,), (0, 5), "done"))

    def test_a_call_at_eight_frames_of_whatever_functions(self):
        names = ["f", "g", "h", "i"]
        text = "box a 0\n" + "".join([f"def {one}\ncall a {other}\nend\n" for one, other in zip(names, names[1:] + ["f"])])
        states, notes = walked(text + "call a h\n")
        self.assertEqual(max([len(state.frames) for state in states]), 8)
        self.assertEqual((states[-1].word, len(notes)), ("broken", 8))

    def test_faults_in_the_rows_that_turn(self):
        for word in ("if", "while"):
            self.fault(f"{word} over number 1 number 0\ntell number 9\nend", 1)
        self.fault("tell over number 1 number 0", 1)
        self.fault("push m item m number 0", 2)

    def test_faults_in_a_return_and_in_a_calls_values(self):
        text = HEAD + "def f p\nreturn item l box p\nend\ntry\ncall a f number 3\ncatch b\ntell box b\nend\n"
        self.tells(text, [2])
        self.tells(text.replace("number 3", "number 2").replace("catch b", "tell box a\ncatch b"), [3])
        self.tells(text.replace("number 3", "over number 3 number 0"), [1])


class ValuesFirst(Running):
    """A value's own fault comes ahead of the row's, and the first one that is met ahead of others."""

    fault = Numbers.fault

    def test_ahead_of_the_rows_own(self):
        self.fault("push n over number 1 number 0", 1)
        self.fault("put l number 3 over number 1 number 0", 1)
        self.fault("put m over number 1 number 0 number 1", 1)
        self.fault("fail item l number 3", 2)

    def test_ahead_of_too_many_frames(self):
        # In the function's n-th frame the list has n - 1 things; only in the seventh, at eight frames, it goes by 0.
        text = ("box a 0\nbox b 0\nbox z 1\nlist l\ndef f p\nset z less size l number 6\npush l number 1\n"
                "call a f over number 1 box z\nend\ntry\ncall a f number 1\ncatch b\ntell box b\nend\n")
        for told, asked in ((1, text), (5, text.replace("number 6", "number 7"))):
            states, notes = walked(asked)
            self.assertEqual(max([len(state.frames) for state in states]), 8)
            self.assertEqual(states[-1].told, (told,))

    def test_from_the_left_part_by_part(self):
        self.fault("set a plus over number 1 number 0 item l number 3", 1)
        self.fault("set a plus item l number 3 over number 1 number 0", 2)
        self.fault("set a over item l number 3 number 0", 2)
        self.fault("set a over over number 1 number 0 item m number 0", 1)
        self.fault("set a item l over number 1 number 0", 1)
        self.fault("put l item m number 0 rest number 1 number 0", 2)
        self.fault("put l rest number 1 number 0 item m number 0", 1)

    def test_from_the_left_among_a_calls_values(self):
        head = HEAD + "def f p q\nend\n"
        self.fault("call a f item m number 0 over number 1 number 0", 2, head)
        self.fault("call a f over number 1 number 0 item m number 0", 1, head)
        self.fault("call a f number 1 item m number 0", 2, head)

    def test_both_parts_are_reckoned_whatever_the_first_one_is(self):
        self.fault("set a times number 0 over number 1 number 0", 1)
        self.fault("set a less number 0 over number 1 number 0", 1)


class Caught(Running):
    def test_the_box_gets_the_number_and_the_second_rows_come(self):
        text = "box a 7\nbox b 0\ntry\nfail number 9\ntell number 1\ncatch a\ntell box a\nend\ntell number 2\n"
        self.same(tuple(behind(text, 1)), ((9, 0), (), (("", (), 3),), (), (), "on"))
        self.goes(text, [1, 3, 4])

    def test_without_second_rows_what_is_behind_the_try_comes(self):
        self.same(tuple(behind("box a 7\ntry\nfail number 9\ncatch a\nend\ntell box a\n", 1)),
                  ((9,), (), (("", (), 2),), (), (), "on"))
        self.same(tuple(behind("box a 7\ntry\nfail number 9\ncatch a\nend\n", 1)),
                  ((9,), (), (("", (), -1),), (), (), "done"))
        self.same(tuple(behind("box a 7\nwhile box a\ntry\nfail number 9\ncatch a\nend\nend\n", 2)),
                  ((9,), (), (("", (), 0),), (), (), "on"))

    def test_by_the_innermost_try(self):
        text = "box a 0\nbox b 0\ntry\ntry\nfail number 3\ncatch a\ntell number 1\nend\ncatch b\ntell number 2\nend\n"
        self.tells(text, [1])
        self.assertEqual(end(text).boxes, (3, 0))

    def test_within_rows_within_the_first_rows(self):
        for row in ("if number 1\nfail number 3\nend", "if number 0\nelse\nfail number 3\nend",
                    "while number 1\nfail number 3\nend", "while number 1\nif number 1\nfail number 3\nend\nend"):
            self.tells(f"box a 0\ntry\n{row}\ncatch a\ntell box a\nend\n", [3])

    def test_each_of_the_first_rows(self):
        self.tells("box a 0\ntry\ntell number 1\ntell number 2\nfail number 3\ncatch a\ntell box a\nend\n", [1, 2, 3])

    def test_not_by_a_try_in_whose_second_rows_the_row_stands(self):
        text = "box a 0\nbox b 0\ntry\nfail number 3\ncatch a\nfail number 4\nend\ntell number 1\n"
        states, notes = walked(text)
        self.assertEqual((states[-1].word, states[-1].boxes, states[-1].told), ("broken", (3, 0), ()))
        self.assertEqual([note.catcher for note in notes], [0, -1])

    def test_then_by_the_one_around_it(self):
        text = ("box a 0\nbox b 0\ntry\ntry\nfail number 3\ncatch a\nfail number 4\nend\ntell number 1\ncatch b\n"
                "tell box b\nend\n")
        states, notes = walked(text)
        self.assertEqual((states[-1].word, states[-1].boxes, states[-1].told), ("done", (3, 4), (4,)))
        self.assertEqual([note.catcher for note in notes], [1, 0, -1])

    def test_by_a_try_within_the_second_rows(self):
        text = "box a 0\nbox b 0\ntry\nfail number 3\ncatch a\ntry\nfail number 4\ncatch b\ntell box b\nend\nend\n"
        states, notes = walked(text)
        self.assertEqual((states[-1].word, states[-1].boxes), ("done", (3, 4)))
        self.assertEqual([note.catcher for note in notes], [0, 2, -1])

    def test_not_by_a_try_behind_or_ahead_of_the_row(self):
        text = "box a 0\ntry\ntell number 1\ncatch a\nend\nfail number 3\ntry\ntell number 2\ncatch a\nend\n"
        self.tells(text, [1], "broken")

    def test_into_an_own_or_a_param(self):
        for name, numbers in (("p", (3, 0)), ("o", (2, 3))):
            text = f"box a 7\ndef f p\nown o\ntry\nfail number 3\ncatch {name}\ntell box p\nend\nend\ncall a f number 2\n"
            self.same(tuple(behind(text, 2)), ((7,), (), (("", (), 4), ("f", numbers, 3)), (), (), "on"))

    def test_into_the_programs_box_in_a_function(self):
        text = "box a 7\nbox b 0\ndef f p\ntry\nfail number 3\ncatch b\nend\nend\ncall a f number 2\n"
        self.same(tuple(behind(text, 2)), ((7, 3), (), (("", (), 3), ("f", (2,), -1)), (), (), "on"))

    def test_in_a_frame_ahead(self):
        text = "box a 7\nbox b 0\ndef f\nfail number 3\nend\ntry\ncall a f\ntell number 1\ncatch b\ntell box b\nend\n"
        self.same(tuple(behind(text, 2)), ((7, 3), (), (("", (), 5),), (), (), "on"))

    def test_the_frames_between_go(self):
        text = ("box a 7\ndef f\nown o\ntry\ncall a g\ncatch o\ntell box o\nend\nend\ndef g\nown x\ncall x h\nend\n"
                "def h\nown y\nset y number 9\nfail number 3\nend\ncall a f\n")
        states, notes = walked(text)
        self.assertEqual([len(state.frames) for state in states], [1, 2, 3, 4, 4, 2, 2, 1])
        self.same(tuple(states[5]), ((7,), (), (("", (), 9), ("f", (3,), 3)), (), (), "on"))

    def test_the_calling_row_is_asked_not_the_row_behind_it(self):
        text = "box a 7\nbox b 0\ndef f\nfail number 3\nend\ntry\ntell number 1\ncatch b\nend\ncall a f\n" \
               "try\ntell number 2\ncatch b\nend\n"
        self.tells(text, [1], "broken")
        text = "box a 7\nbox b 0\ndef f\nfail number 3\nend\ntry\ncall a f\ncatch b\nend\ntell box b\n"
        self.tells(text, [3])

    def test_not_where_the_calling_row_stands_in_second_rows(self):
        text = ("box a 7\nbox b 0\ndef f\nfail number 4\nend\ntry\ntry\nfail number 3\ncatch b\ncall a f\nend\ncatch a\n"
                "tell box a\nend\n")
        self.tells(text, [4])
        text = "box a 7\nbox b 0\ndef f\nfail number 4\nend\ntry\nfail number 3\ncatch b\ncall a f\nend\n"
        self.tells(text, [], "broken")

    def test_a_try_in_a_function_that_is_left_catches_no_more(self):
        text = "box a 7\nbox b 0\ndef f\ntry\nreturn number 1\ncatch b\nend\nend\ncall a f\nfail number 9\n"
        self.tells(text, [], "broken")
        self.assertEqual(end(text).boxes, (1, 0))

    def test_in_the_same_frame_ahead_of_a_frame_ahead(self):
        text = ("box a 7\nbox b 0\ndef f\ntry\nfail number 3\ncatch a\ntell number 1\nend\nend\ntry\ncall b f\ncatch b\n"
                "tell number 2\nend\n")
        self.tells(text, [1])
        self.assertEqual(end(text).boxes, (3, 0))

    def test_a_call_at_eight_frames_is_caught_in_its_own_frame(self):
        text = "box a 0\ndef f\nown o\ntry\ncall a f\ncatch o\ntell box o\nend\nend\ncall a f\n"
        states, notes = walked(text)
        self.assertEqual(states[-1].told, (5,))
        self.assertEqual([len(state.frames) for state in states], [1, 2, 3, 4, 5, 6, 7, 8, 8, 8, 7, 6, 5, 4, 3, 2, 1])

    def test_a_run_goes_on_behind_a_catch(self):
        text = ("box a 3\nbox b 0\nlist l\nwhile box a\nset a minus box a number 1\ntry\ntell over number 6 box a\n"
                "catch b\ntell plus box b number 100\nend\nend\n")
        self.tells(text, [3, 6, 101])


class NotCaught(Running):
    def test_in_the_program(self):
        text = "box a 7\nlist l\ntell box a\npop a l\ntell box a\n"
        self.same(tuple(end(text)), ((7,), ((),), (("", (), 1),), (), (7,), "broken"))

    def test_each_fault_in_the_program(self):
        for row in ("set a over box a number 0", "set a item m number 0", "put m number 0 box a", "push n box a", "pop a m",
                    "fail box a", "if rest box a number 0\nend", "while item m box a\nend", "tell over box a number 0"):
            last = end(HEAD + row + "\n")
            self.same(tuple(last), ((4, 0), ((1, 2, 3), (), tuple(range(1, 13))), (("", (), 0),), (), (), "broken"))

    def test_in_a_function_the_programs_frame_alone_is_left_at_the_calling_row(self):
        text = "box a 7\ndef f\ncall a g number 2\nend\ndef g p\nown o\nfail number 1\nend\ntell box a\ncall a f\n"
        self.same(behind(text, 3).frames, (("", (), 5), ("f", (), 1), ("g", (2, 0), 3)))
        self.same(tuple(end(text)), ((7,), (), (("", (), 5),), (), (7,), "broken"))

    def test_at_eight_frames(self):
        self.same(tuple(end("box a 7\n" + DEEP + "call a f\n")), ((7,), (), (("", (), 2),), (), (), "broken"))

    def test_what_was_done_ahead_stays(self):
        text = "box a 7\nlist l\ndef f p\nset a box p\npush l box p\nask a d\ntell box p\nfail number 1\nend\ncall a f number 3\n"
        self.same(tuple(end(text, (("d", (8,)),))), ((8,), ((3,),), (("", (), 6),), (1,), (3,), "broken"))

    def test_a_box_with_the_faults_number_is_not_written(self):
        self.assertEqual(note_of("box a 7\nfail number 1\n", 1).wrote, ())


if __name__ == "__main__":
    unittest.main()
