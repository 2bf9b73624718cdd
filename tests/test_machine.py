"""States, what comes behind a row, and what steps do [3.1] to [3.3]; how a fault goes is in test_faults."""
import copy
import unittest
from collections import namedtuple

from retrace.errors import NoStep
from retrace.machine import Machine
from retrace.reading import read
from running import Running, behind, end, walked
from samples import NOTHING, Lively


class First(Running):
    def first(self, text, world=None):
        return Machine(read(text), world).first()

    def point(self, text):
        state = self.first(text)
        self.same(state[2], (("", (), state[2][0][2]),))
        self.assertEqual(state[5], "done" if state[2][0][2] == -1 else "on")
        return state[2][0][2]

    def test_a_program_of_nothing(self):
        self.same(Machine(NOTHING).first(), ((), (), (("", (), -1),), (), (), "done"))

    def test_boxes_and_lists_in_the_programs_order(self):
        text = "box b 5\nbox a 0\nbox c 999999\nlist m\nlist l 3 1 2\ntell box a\n"
        self.same(self.first(text), ((5, 0, 999999), ((), (3, 1, 2)), (("", (), 0),), (), (), "on"))

    def test_a_0_for_each_door_that_the_rows_name_whatever_the_world_has(self):
        text = "box a 0\ndef f\nask a d\nend\nif box a\nask a c\nelse\nask a b\nend\nask a c\n"
        for world in (None, (), (("c", (1, 2)),), (("a", (7,)), ("e", ()), ("z", (1,)))):
            self.same(self.first(text, world), ((0,), (), (("", (), 2),), (0, 0, 0), (), "on"))

    def test_no_rows_are_done_at_once(self):
        for text in ("", "box a 1\nlist l 1\n", "box a 0\ndef f p\nown o\ntell box p\nend\n"):
            self.assertEqual(self.point(text), -1)

    def test_the_point_at_rows_that_are_steps(self):
        for row in ("set a number 1", "push l box a", "pop a l", "put l box a box a", "ask a d", "tell box a", "fail box a",
                    "call a f", "if box a\nend", "if box a\ntell box a\nelse\ntell box a\nend", "while box a\nend",
                    "while box a\ntell box a\nend"):
            self.assertEqual(self.point("box a 0\nlist l\ndef f\nend\n" + row + "\n"), 1)
            self.assertEqual(self.point("box a 0\nlist l\ndef f\nend\n" + row + "\ntell box a\n"), 1)

    def test_the_programs_rows_have_their_numbers_behind_the_functions(self):
        self.assertEqual(self.point("box a 0\ndef f\ntell box a\nend\ndef g\nend\ntell box a\n"), 3)

    def test_of_a_try_its_first_rows_come(self):
        self.assertEqual(self.point("box a 0\ntry\ntell box a\ncatch a\ntell box a\nend\n"), 1)
        self.assertEqual(self.point("box a 0\ntry\nwhile box a\nend\ntell box a\ncatch a\nend\n"), 1)

    def test_of_tries_however_deep_the_innermost_ones_rows_come(self):
        for depth in range(1, 5):
            text = "box a 0\n" + "try\n" * depth + "tell box a\n" + "catch a\nend\n" * depth
            self.assertEqual(self.point(text), depth)

    def test_of_a_try_with_no_first_rows_what_is_behind_it_comes(self):
        self.assertEqual(self.point("box a 0\ntry\ncatch a\nend\ntell box a\n"), 1)
        self.assertEqual(self.point("box a 0\ntry\ncatch a\ntell box a\nend\ntell box a\n"), 2)
        self.assertEqual(self.point("box a 0\ntry\ntry\ncatch a\nend\ntell box a\ncatch a\nend\n"), 2)
        self.assertEqual(self.point("box a 0\ntry\ntry\ncatch a\nend\ncatch a\nend\ntell box a\n"), 2)
        self.assertEqual(self.point("box a 0\ntry\ncatch a\nend\ntry\ncatch a\nend\nif box a\nend\n"), 2)

    def test_tries_with_no_first_rows_alone_are_done_at_once(self):
        for text in ("try\ncatch a\nend\n", "try\ncatch a\ntell box a\nend\n", "try\ntry\ncatch a\nend\ncatch a\nend\n",
                     "try\ncatch a\nend\ntry\ncatch a\nend\n"):
            self.assertEqual(self.point("box a 0\n" + text), -1)

    def test_asked_twice(self):
        machine = Machine(read("box a 1\nset a number 2\nset a number 3\n"))
        told = machine.first()
        machine.step(machine.step(told)[0])
        self.same(machine.first(), told)


class Behind(Running):
    def test_the_next_one(self):
        self.goes("box a 0\nset a number 1\ntell box a\nset a number 2\n", [0, 1, 2])

    def test_a_whiles_rows_lead_to_the_while(self):
        self.goes("box a 2\nwhile box a\nset a minus box a number 1\ntell box a\nend\ntell box a\n",
                  [0, 1, 2, 0, 1, 2, 0, 3])

    def test_a_while_in_a_while(self):
        self.goes("box a 2\nbox b 0\nwhile box a\nset a minus box a number 1\nset b number 1\nwhile box b\n"
                  "set b number 0\nend\nend\n", [0, 1, 2, 3, 4, 3, 0, 1, 2, 3, 4, 3, 0])

    def test_an_ifs_first_rows(self):
        text = "box a 3\nif box a\ntell box a\ntell box a\nelse\ntell box a\nend\ntell box a\n"
        self.goes(text, [0, 1, 2, 4])

    def test_an_ifs_second_rows(self):
        text = "box a 0\nif box a\ntell box a\nelse\ntell box a\ntell box a\nend\ntell box a\n"
        self.goes(text, [0, 2, 3, 4])

    def test_an_if_at_the_end(self):
        text = "if box a\ntell box a\nelse\ntell box a\nend\n"
        self.goes("box a 1\n" + text, [0, 1])
        self.goes("box a 0\n" + text, [0, 2])

    def test_an_if_without_rows_on_the_way_that_is_gone(self):
        self.goes("box a 0\nif box a\ntell box a\nend\ntell box a\n", [0, 2])
        self.goes("box a 1\nif box a\nelse\ntell box a\nend\ntell box a\n", [0, 2])
        self.goes("box a 1\nif box a\nend\ntell box a\n", [0, 1])
        self.goes("box a 0\nif box a\nend\ntell box a\n", [0, 1])
        self.goes("box a 0\nif box a\nend\n", [0])
        self.goes("box a 0\nif box a\ntell box a\nend\n", [0])

    def test_a_while_without_rows(self):
        self.goes("box a 0\nwhile box a\nend\ntell box a\n", [0, 1])
        self.goes("box a 0\nwhile box a\nend\n", [0])
        self.goes("box a 1\nwhile box a\nend\ntell box a\n", [0] * 50, "on")

    def test_a_while_that_has_no_steps_within(self):
        self.goes("box a 1\nwhile box a\ntry\ncatch a\ntell box a\nend\nend\ntell box a\n", [0] * 50, "on")

    def test_a_trys_first_rows_lead_behind_it(self):
        self.goes("box a 0\ntry\ntell box a\ntell box a\ncatch a\ntell box a\nend\ntell box a\n", [1, 2, 4])
        self.goes("box a 0\ntry\ntell box a\ncatch a\ntell box a\nend\n", [1])

    def test_a_trys_second_rows_lead_behind_it(self):
        self.goes("box a 0\ntry\nfail box a\ntell box a\ncatch a\ntell box a\ntell box a\nend\ntell box a\n", [1, 3, 4, 5])
        self.goes("box a 0\ntry\nfail box a\ncatch a\ntell box a\nend\n", [1, 2])

    def test_a_try_without_second_rows(self):
        self.goes("box a 0\ntry\nfail box a\ncatch a\nend\ntell box a\n", [1, 2])
        self.goes("box a 0\ntry\nfail box a\ncatch a\nend\n", [1])

    def test_a_try_without_first_rows_is_passed(self):
        self.goes("box a 0\ntell box a\ntry\ncatch a\ntell box a\nend\ntell box a\n", [0, 3])
        self.goes("box a 0\ntell box a\ntry\ncatch a\ntell box a\nend\n", [0])

    def test_a_try_behind_a_row(self):
        self.goes("box a 0\ntell box a\ntry\ntry\ntell box a\ncatch a\nend\ncatch a\nend\ntell box a\n", [0, 3, 4])

    def test_a_trys_second_rows_that_begin_with_a_try(self):
        self.goes("box a 0\ntry\nfail box a\ncatch a\ntry\ntell box a\ncatch a\nend\nend\n", [1, 3])

    def test_a_while_whose_rows_end_in_an_if(self):
        text = "while box a\nset a minus box a number 1\nif box a\ntell box a\nelse\ntell number 9\nend\nend\ntell box a\n"
        self.goes("box a 2\n" + text, [0, 1, 2, 3, 0, 1, 2, 4, 0, 5])

    def test_a_while_whose_rows_end_in_an_if_without_rows_on_one_way(self):
        self.goes("box a 2\nwhile box a\nset a minus box a number 1\nif box a\ntell box a\nend\nend\n",
                  [0, 1, 2, 3, 0, 1, 2, 0])
        self.goes("box a 2\nwhile box a\nset a minus box a number 1\nif box a\nelse\ntell box a\nend\nend\n",
                  [0, 1, 2, 0, 1, 2, 3, 0])

    def test_a_try_in_a_while(self):
        self.goes("box a 2\nbox b 0\nwhile box a\ntry\nset a minus box a number 1\nfail number 4\ncatch b\ntell box b\n"
                  "end\nend\ntell box a\n", [0, 2, 3, 4, 0, 2, 3, 4, 0, 5])
        self.goes("box a 2\nbox b 0\nwhile box a\ntry\nset a minus box a number 1\ncatch b\ntell box b\nend\nend\n",
                  [0, 2, 0, 2, 0])

    def test_a_while_in_a_try_in_a_while(self):
        self.goes("box a 1\nbox b 1\nwhile box a\nset a number 0\ntry\nwhile box b\nset b number 0\nend\ncatch b\nend\nend\n",
                  [0, 1, 3, 4, 3, 0])

    def test_four_deep(self):
        self.goes("box a 1\nif box a\nif box a\nif box a\ntell box a\nend\nend\nend\ntell box a\n", [0, 1, 2, 3, 4])
        self.goes("box a 1\nif not box a\nelse\nif not box a\nelse\nif not box a\nelse\ntell box a\nend\nend\nend\n"
                  "tell box a\n", [0, 1, 2, 3, 4])
        self.goes("box a 1\nif box a\ntry\nwhile box a\nset a number 0\nend\ncatch a\nend\nend\ntell box a\n",
                  [0, 2, 3, 2, 4])

    def test_five_deep(self):
        self.goes("box a 1\nwhile box a\nif box a\ntry\nif box a\nset a number 0\nend\ncatch a\nend\nend\nend\ntell box a\n",
                  [0, 1, 3, 4, 0, 5])
        self.goes("box a 1\nif box a\nif box a\nif box a\nif box a\ntell box a\nend\nend\nend\nend\n", [0, 1, 2, 3, 4])
        self.goes("box a 2\nwhile box a\ntry\ntry\ntry\nfail number 0\ncatch a\nend\ncatch a\nend\ncatch a\nend\nend\n",
                  [0, 4, 0])

    def test_in_a_function_nothing_comes_behind_the_last_row(self):
        text = "box a 0\ndef f\ntell box a\nend\ncall a f\ntell box a\n"
        self.goes(text, [2, 1, 0, 3])
        self.assertEqual([state.frames for state in walked(text)[0]], [
            (("", (), 2),), (("", (), 2), ("f", (), 1)), (("", (), 2), ("f", (), -1)), (("", (), 3),), (("", (), -1),)])

    def test_in_a_function_nothing_comes_behind_rows_within_rows(self):
        self.goes("box a 1\ndef f\nif box a\ntell box a\nend\nend\ncall a f\n", [3, 1, 2, 0])
        self.goes("box a 1\ndef f\nif box a\nelse\ntell box a\nend\nend\ncall a f\n", [3, 1, 0])
        self.goes("box a 1\ndef f\ntry\nfail box a\ncatch a\nend\nend\ncall a f\n", [3, 2, 0])
        self.goes("box a 1\ndef f\nwhile box a\nset a number 0\nend\nend\ncall a f\n", [3, 1, 2, 1, 0])

    def test_a_function_that_begins_with_a_try(self):
        self.goes("box a 0\ndef f\ntry\ntell box a\ncatch a\nend\nend\ncall a f\n", [3, 2, 0])
        self.goes("box a 0\ndef f\ntry\ncatch a\ntell box a\nend\nend\ncall a f\n", [3, 0])

    def test_a_function_without_rows(self):
        self.goes("box a 0\ndef f\nend\ncall a f\ntell box a\n", [1, 0, 2])
        self.same(behind("box a 0\ndef f\nend\ncall a f\n", 1).frames, (("", (), 1), ("f", (), -1)))

    def test_done_as_soon_as_nothing_comes_in_the_program(self):
        self.assertEqual([state.word for state in walked("box a 0\ntell box a\ntell box a\n")[0]], ["on", "on", "done"])

    def test_not_done_while_a_call_is_open(self):
        states, notes = walked("box a 0\ndef f\ntell box a\nend\ncall a f\n")
        self.assertEqual([state.word for state in states], ["on", "on", "on", "done"])

    def test_rows_alike_are_rows_of_their_own(self):
        self.goes("box a 1\nif box a\nif box a\nelse\ntell box a\nend\nif box a\ntell box a\nend\nelse\ntell box a\nend\n"
                  "if box a\nif box a\nelse\ntell box a\nend\nend\n", [0, 1, 3, 4, 6, 7])


class Steps(Running):
    """Each form of row by its step, with the whole state behind it."""

    HEAD = "box a 4\nbox b 5\nlist l 1 2 3\nlist m\n"

    def state(self, row, world=None):
        return behind(self.HEAD + row + "\ntell box a\n", 1, world)

    def gives(self, row, boxes=(4, 5), lists=((1, 2, 3), ()), point=1, asked=(), told=(), world=None):
        self.same(tuple(self.state(row, world)), (boxes, lists, (("", (), point),), asked, told, "on"))

    def test_set(self):
        self.gives("set a number 7", boxes=(7, 5))
        self.gives("set b plus box a box b", boxes=(4, 9))
        self.gives("set b box b")

    def test_push(self):
        self.gives("push l box b", lists=((1, 2, 3, 5), ()))
        self.gives("push m size l", lists=((1, 2, 3), (3,)))

    def test_push_up_to_12_things(self):
        text = "box a 12\nlist l\nwhile box a\npush l box a\nset a minus box a number 1\nend\n"
        self.assertEqual(end(text).lists, (tuple(range(12, 0, -1)),))

    def test_pop(self):
        self.gives("pop b l", boxes=(4, 3), lists=((1, 2), ()))
        self.same(tuple(behind("box a 4\nlist l 9\npop a l\n", 1)), ((9,), ((),), (("", (), -1),), (), (), "done"))

    def test_put(self):
        self.gives("put l number 0 box a", lists=((4, 2, 3), ()))
        self.gives("put l number 1 number 999999", lists=((1, 999999, 3), ()))
        self.gives("put l number 2 box b", lists=((1, 2, 5), ()))

    def test_ask(self):
        self.gives("ask b door", boxes=(4, 8), asked=(1,), world=(("door", (8, 9)),))
        self.gives("ask a door", boxes=(0, 5), asked=(1,))

    def test_tell(self):
        self.gives("tell plus box a box b", told=(9,))

    def test_if(self):
        for number in (1, 2, 999999):
            self.gives(f"if number {number}\ntell box b\nelse\npop a l\nend", point=1)
            self.gives(f"if number {number}\nelse\npop a l\nend", point=2)
        self.gives("if number 0\ntell box b\nelse\npop a l\nend", point=2)
        self.gives("if number 0\ntell box b\nend", point=2)

    def test_while(self):
        for number in (1, 2, 999999):
            self.gives(f"while number {number}\ntell box b\nend", point=1)
            self.gives(f"while number {number}\nend", point=0)
        self.gives("while number 0\ntell box b\nend", point=2)

    def test_a_try_is_no_step(self):
        self.gives("try\nset a number 7\ntell box b\ncatch b\nend", boxes=(7, 5), point=2)
        self.gives("try\nset a number 7\ncatch b\ntell box b\nend", boxes=(7, 5), point=3)

    def test_what_was_told_stays(self):
        self.tells("box a 3\nwhile box a\ntell box a\ntell times box a box a\nset a minus box a number 1\nend\n",
                   [3, 9, 2, 4, 1, 1])

    def test_states_are_plain_tuples(self):
        Pair = namedtuple("Pair", "name thing")
        boxes, lists, functions, rows = read("box a 1\nlist l 2\ndef f p\npush l box p\nend\nask a d\ncall a f box a\n")
        lists = (Pair("l", Pair(2, 3)),)
        machine = Machine(Pair(0, 0)._make((boxes, lists)) + (functions, rows), (Pair("d", Pair(7, 8)),))
        state = machine.first()
        while True:
            self.plain(state)
            if state[5] != "on":
                break
            state, note = machine.step(state)
            self.plain(note)
        self.same(state, ((0,), ((2, 3, 7),), (("", (), -1),), (1,), (), "done"))

    def plain(self, thing):
        self.assertIn(type(thing), (tuple, int, str))
        if isinstance(thing, tuple):
            for part in thing:
                self.plain(part)


class Values(Running):
    def value(self, text, expected):
        last = end(f"box a 6\nbox b 4\nlist l 7 8 9\nlist m\ntell {text}\n")
        self.same((last.told, last.word), ((expected,), "done"))

    def test_numbers_and_boxes(self):
        self.value("number 0", 0)
        self.value("number 999999", 999999)
        self.value("box a", 6)
        self.value("box b", 4)

    def test_plus(self):
        self.value("plus box a box b", 10)
        self.value("plus number 999999 number 0", 999999)
        self.value("plus number 999999 number 1", 0)
        self.value("plus number 999999 number 999999", 999998)

    def test_minus(self):
        self.value("minus box a box b", 2)
        self.value("minus box b box b", 0)
        self.value("minus box b box a", 999998)
        self.value("minus number 0 number 999999", 1)
        self.value("minus number 0 number 1", 999999)

    def test_times(self):
        self.value("times box a box b", 24)
        self.value("times number 1000 number 1000", 0)
        self.value("times number 999999 number 999999", 1)
        self.value("times number 1001 number 1000", 1000)
        self.value("times number 0 number 999999", 0)

    def test_over_and_rest(self):
        for one, other in ((6, 4), (4, 6), (0, 3), (999999, 1), (999999, 999999), (999999, 1000), (7, 7)):
            self.value(f"over number {one} number {other}", one // other)
            self.value(f"rest number {one} number {other}", one % other)
        self.value("over number 17 number 5", 3)
        self.value("rest number 17 number 5", 2)

    def test_less(self):
        self.value("less box b box a", 1)
        self.value("less box a box b", 0)
        self.value("less box a box a", 0)
        self.value("less number 9 number 10", 1)

    def test_same(self):
        self.value("same box a number 6", 1)
        self.value("same box a box b", 0)
        self.value("same number 0 number 0", 1)

    def test_not(self):
        self.value("not number 0", 1)
        self.value("not number 1", 0)
        self.value("not number 999999", 0)

    def test_item(self):
        self.value("item l number 0", 7)
        self.value("item l number 1", 8)
        self.value("item l number 2", 9)
        self.value("item l minus box a box b", 9)

    def test_size(self):
        self.value("size l", 3)
        self.value("size m", 0)

    def test_four_deep(self):
        self.value("plus times box a minus box b number 1 over number 9 rest box a box b", 22)
        self.value("not not not box a", 0)
        self.value("item l minus item l number 2 item l number 0", 9)
        self.value("minus times number 9 plus number 1 number 2 less number 2 number 3", 26)

    def test_less_same_and_not_tell_numbers_no_truths(self):
        for text in ("less box b box a", "same box a box a", "not number 0"):
            last = end(f"box a 6\nbox b 4\ntell {text}\n")
            self.assertIs(type(last.told[0]), int)

    def test_a_box_that_a_row_has_just_changed(self):
        self.tells("box a 1\nset a plus box a box a\nset a plus box a box a\ntell box a\n", [4])

    def test_params_and_owns_in_the_place_of_boxes(self):
        self.tells("box a 1\nlist l 5 6 7\ndef f p q\nown o\nset o plus box p box q\nset p number 2\n"
                   "tell times box o item l box p\nreturn box p\nend\ncall a f number 3 box a\ntell box a\n", [28, 2])

    def test_a_function_reads_and_sets_the_programs_boxes(self):
        self.tells("box a 1\nbox b 2\ndef f p\ntell box b\nset b box p\nend\ncall a f number 9\ntell box b\n", [2, 9])


class Asking(Running):
    def told(self, text, world, told, asked):
        last = end(text, world)
        self.same((last.told, last.asked), (told, asked))

    THREE = "box a 7\n" + "ask a d\ntell box a\n" * 3
    TWO_DOORS = "box a 7\n" + "ask a e\ntell box a\nask a d\ntell box a\n" * 2

    def test_the_numbers_in_turn(self):
        self.told(self.THREE, (("d", (5, 6, 8)),), (5, 6, 8), (3,))
        self.told(self.THREE, (("d", (5, 6, 8, 9)),), (5, 6, 8), (3,))

    def test_0_behind_the_last_one(self):
        self.told(self.THREE, (("d", (5,)),), (5, 0, 0), (3,))
        self.told(self.THREE, (("d", (5, 6)),), (5, 6, 0), (3,))
        self.told(self.THREE, (("d", ()),), (0, 0, 0), (3,))

    def test_a_door_that_the_world_has_not(self):
        self.told(self.THREE, (("c", (5,)), ("e", (6,))), (0, 0, 0), (3,))

    def test_no_world(self):
        self.told(self.THREE, None, (0, 0, 0), (3,))
        self.told(self.THREE, (), (0, 0, 0), (3,))
        last = Machine(read("box a 7\nask a d\n"))
        self.same(last.step(last.first())[0], ((0,), (), (("", (), -1),), (1,), (), "done"))

    def test_two_doors_in_turn(self):
        self.told(self.TWO_DOORS, (("d", (1, 2)), ("e", (3, 4))), (3, 1, 4, 2), (2, 2))
        self.told(self.TWO_DOORS, (("d", (1,)), ("e", (3, 4))), (3, 1, 4, 0), (2, 2))

    def test_asked_counts_by_the_rising_doors(self):
        states, notes = walked("box a 0\nask a e\nask a d\nask a e\n", (("d", (1,)), ("e", (2,))))
        self.assertEqual([state.asked for state in states], [(0, 0), (0, 1), (1, 1), (1, 2)])

    def test_one_door_asked_by_two_rows_in_a_function_and_outside(self):
        self.told("box a 0\ndef f\nown o\nask o d\nreturn box o\nend\nask a d\ntell box a\ncall a f\ntell box a\nask a d\n"
                  "tell box a\n", (("d", (3, 4, 5)),), (3, 4, 5), (3,))

    def test_into_an_own(self):
        text = "box a 0\ndef f\nown o\nask o d\nend\ncall a f\n"
        self.same(behind(text, 2, (("d", (8,)),)).frames, (("", (), 2), ("f", (8,), -1)))


class Calling(Running):
    def test_params_from_the_values_and_owns_0(self):
        text = "box a 5\ndef f p q\nown o\nown r\ntell box p\nend\ncall a f plus box a number 1 box a\n"
        self.same(tuple(behind(text, 1)), ((5,), (), (("", (), 2), ("f", (6, 5, 0, 0), 1)), (), (), "on"))

    def test_params_alone_and_owns_alone(self):
        self.same(behind("box a 5\ndef f p\nend\ncall a f box a\n", 1).frames, (("", (), 1), ("f", (5,), -1)))
        self.same(behind("box a 5\ndef f\nown o\nend\ncall a f\n", 1).frames, (("", (), 1), ("f", (0,), -1)))

    def test_values_are_reckoned_in_the_calling_frame(self):
        text = "box a 5\ndef f p q\nif box p\ncall a f number 0 plus box p box q\nend\nend\ncall a f number 3 number 4\n"
        self.same(behind(text, 3).frames, (("", (), 3), ("f", (3, 4), 2), ("f", (0, 7), 1)))

    def test_a_value_of_the_calling_functions_own_of_another_name(self):
        text = "box a 0\ndef f p\ncall p g times box p number 2\nend\ndef g q\nend\ncall a f number 3\n"
        self.same(behind(text, 2).frames, (("", (), 3), ("f", (3,), 1), ("g", (6,), -1)))

    def test_the_frames_ahead_keep_their_points(self):
        text = "box a 0\ndef f\ntell number 1\ncall a g\nend\ndef g\ntell number 2\ntell number 3\nend\ntell box a\ncall a f\n"
        states, notes = walked(text)
        self.assertEqual([[frame[2] for frame in state.frames] for state in states], [
            [6], [7], [7, 1], [7, 2], [7, 2, 4], [7, 2, 5], [7, 2, -1], [7, -1], [-1]])

    def test_a_function_that_calls_itself(self):
        text = ("box a 0\ndef f n\nown r\nif box n\ncall r f minus box n number 1\nreturn times box n box r\nend\n"
                "return number 1\nend\ncall a f number 5\ntell box a\n")
        self.tells(text, [120])

    def test_eight_frames(self):
        text = "box a 0\ndef f n\nif box n\ncall n f minus box n number 1\nend\nreturn number 4\nend\ncall a f number 6\n"
        states, notes = walked(text)
        self.assertEqual(max([len(state.frames) for state in states]), 8)
        self.assertEqual((states[-1].boxes, states[-1].word), ((4,), "done"))

    def test_return_gives_the_number_to_the_programs_box(self):
        text = "box a 0\nbox b 9\ndef f p\nreturn plus box p number 1\ntell number 3\nend\ncall b f number 6\ntell box b\n"
        self.same(tuple(behind(text, 2)), ((0, 7), (), (("", (), 4),), (), (), "on"))
        self.goes(text, [3, 1, 4])

    def test_return_gives_the_number_to_the_calling_frames_own_or_param(self):
        for name, numbers in (("p", (7, 0)), ("o", (2, 7))):
            text = f"box a 0\ndef f p\nown o\ncall {name} g\ntell box p\nend\ndef g\nreturn number 7\nend\ncall a f number 2\n"
            self.same(behind(text, 3).frames, (("", (), 5), ("f", numbers, 2)))
            self.same(behind(text, 3).boxes, (0,))

    def test_return_in_a_function_gives_the_number_to_a_box_of_the_program(self):
        text = "box a 0\nbox b 0\ndef f p\ncall b g box p\ntell box p\nend\ndef g p\nreturn number 7\nend\n" \
               "call a f number 2\n"
        self.same(behind(text, 3).frames, (("", (), 5), ("f", (2,), 2)))
        self.same(behind(text, 3).boxes, (0, 7))

    def test_the_called_functions_own_of_the_boxs_name_is_not_meant(self):
        text = ("box a 0\ndef f x\ncall x g\ntell box x\nend\ndef g\nown x\nset x number 5\nreturn number 8\nend\n"
                "call a f number 2\n")
        self.tells(text, [8])

    def test_return_from_within_rows(self):
        text = ("box a 0\ndef f p\nwhile number 1\nif box p\ntry\nreturn number 6\ncatch p\nend\nend\nend\nend\n"
                "call a f number 1\ntell box a\n")
        self.goes(text, [5, 1, 2, 4, 6])
        self.tells(text, [6])

    def test_return_of_a_number_of_the_frame_that_goes(self):
        self.tells("box a 1\ndef f p\nown o\nset o times box p box p\nreturn box o\nend\ncall a f number 9\ntell box a\n", [81])

    def test_off_does_as_return_of_0(self):
        text = "box a 5\nbox b 6\ndef f\ntell box b\nend\ncall b f\ntell box b\n"
        self.same(tuple(behind(text, 3)), ((5, 0), (), (("", (), 3),), (), (6,), "on"))

    def test_off_of_a_function_without_rows(self):
        self.same(tuple(behind("box a 5\ndef f p\nend\ncall a f box a\n", 2)), ((0,), (), (("", (), -1),), (), (), "done"))

    def test_off_in_a_function(self):
        text = "box a 5\ndef f p\ncall p g\ntell box p\nend\ndef g\nend\ncall a f number 2\n"
        self.same(behind(text, 3).frames, (("", (), 4), ("f", (0,), 2)))

    def test_behind_a_return_the_calling_function_goes_off(self):
        text = "box a 5\ndef f\ncall a g\nend\ndef g\nreturn number 3\nend\ncall a f\n"
        self.goes(text, [4, 1, 3, 0])
        self.assertEqual([state.boxes for state in walked(text)[0]], [(5,), (5,), (5,), (3,), (0,)])

    def test_a_call_in_a_while(self):
        self.tells("box a 3\ndef f p\nreturn minus box p number 1\nend\nwhile box a\ncall a f box a\ntell box a\nend\n",
                   [2, 1, 0])

    def test_a_function_of_a_boxs_a_lists_and_an_owns_name(self):
        self.tells("box a 1\nlist l\ndef a p\nreturn plus box p number 1\nend\ndef l\nreturn number 7\nend\ndef o\nown o\n"
                   "set o number 5\nreturn box o\nend\ncall a a box a\ntell box a\ncall a l\ntell box a\ncall a o\ntell box a\n",
                   [2, 7, 5])

    def test_owns_are_0_anew_in_each_call(self):
        text = "box a 0\ndef f\nown o\ntell box o\nset o number 9\nend\ncall a f\ncall a f\n"
        self.tells(text, [0, 0])

    def test_frames_of_one_function_have_numbers_of_their_own(self):
        text = "box a 0\ndef f p\nown o\nset o box p\nif box p\ncall a f minus box p number 1\nend\ntell box o\nend\n" \
               "call a f number 3\n"
        self.tells(text, [0, 1, 2, 3])


class NextRow(Running):
    def next_rows(self, text):
        machine = Machine(read(text))
        return [machine.next_row(state) for state in map(tuple, walked(text)[0])]

    def test_the_points_of_the_program(self):
        self.assertEqual(self.next_rows("box a 0\ntell box a\ntry\ntell box a\ncatch a\nend\n"), [0, 2, -1])

    def test_the_points_of_functions_and_their_defs(self):
        text = "box a 0\ndef f\ntell box a\nend\ndef g\ncall a f\nend\ncall a g\ntell box a\n"
        self.assertEqual(self.next_rows(text), [4, 3, 1, 0, 2, 5, -1])

    def test_where_the_word_is_not_on(self):
        self.assertEqual(self.next_rows(""), [-1])
        self.assertEqual(self.next_rows("tell number 1\nfail number 1\n"), [0, 1, -1])
        self.assertEqual(self.next_rows("box a 0\ndef f\nfail number 1\nend\ncall a f\n"), [2, 1, -1])

    def test_kind(self):
        machine = Machine(read("box a 0\ndef f\nend\ncall a f\n"))
        states, notes = walked("box a 0\ndef f\nend\ncall a f\n")
        for state in states:
            self.assertIs(type(machine.next_row(tuple(state))), int)


class Refused(Running):
    ENDED = ("", "box a 1\n", "tell number 1\n", "fail number 3\n", "box a 0\ndef f\nfail number 1\nend\ncall a f\n",
             "box a 0\ntry\ncatch a\nend\n")

    def test_no_step_where_the_word_is_not_on(self):
        for text in self.ENDED:
            machine = Machine(read(text))
            last = tuple(end(text))
            self.assertIn(last[5], ("done", "broken"))
            self.refused(NoStep, machine.step, last)

    def test_what_is_refused_changes_nothing(self):
        for text in self.ENDED:
            machine = Machine(read(text))
            last = tuple(end(text))
            before = copy.deepcopy(last)
            self.refused(NoStep, machine.step, last)
            self.same(last, before)
            self.refused(NoStep, machine.step, last)
            self.same(machine.first(), Machine(read(text)).first())
            self.assertEqual(machine.next_row(last), -1)


class Machines(Running):
    TEXT = "box a 0\nbox b 2\nlist l 1\ndef f p\npush l box p\nask a d\nend\nwhile box b\nask a d\ncall a f box a\n" \
           "set b minus box b number 1\nend\n"
    WORLD = (("d", (4, 5, 6)),)

    def test_a_step_and_a_state_are_told_as_tuples(self):
        machine = Machine(read(self.TEXT), self.WORLD)
        told = machine.step(machine.first())
        self.assertIs(type(told), tuple)
        self.assertEqual([type(part) for part in told], [tuple, tuple])

    def test_a_step_is_told_of_the_state_alone(self):
        machine = Machine(read(self.TEXT), self.WORLD)
        states = [tuple(state) for state in walked(self.TEXT, self.WORLD)[0]]
        steps = [machine.step(state) for state in states[:-1]]
        backward = [machine.step(state) for state in reversed(states[:-1])]
        self.same(backward, steps[::-1])
        self.same([state for state, note in steps], states[1:])

    def test_a_state_that_was_made_elsewhere(self):
        machine = Machine(read(self.TEXT), self.WORLD)
        for state in walked(self.TEXT, self.WORLD)[0][:-1]:
            self.same(machine.step(eval(repr(tuple(state)))), Machine(read(self.TEXT), self.WORLD).step(tuple(state)))

    def test_nothing_that_is_handed_in_is_changed(self):
        for seed in range(40):
            maker = Lively(seed)
            program = maker.program()
            world = maker.world(program)
            before = copy.deepcopy((program, world))
            machine = Machine(program, world)
            state = machine.first()
            for _ in range(60):
                if state[5] == "on":
                    kept = copy.deepcopy(state)
                    behind, note = machine.step(state)
                    self.same(state, kept)
                    state = behind
            self.same((program, world), before)

    def test_two_machines_beside_one_another(self):
        one, other = Machine(read(self.TEXT), self.WORLD), Machine(read(self.TEXT), (("d", (9,)),))
        third = Machine(read("box a 3\nset a number 4\n"))
        states = [one.first(), other.first(), third.first()]
        for step in range(4):
            states[0] = one.step(states[0])[0]
            states[1] = other.step(states[1])[0]
        states[2] = third.step(states[2])[0]
        self.assertEqual(states[0], tuple(behind(self.TEXT, 4, self.WORLD)))
        self.assertEqual(states[1], tuple(behind(self.TEXT, 4, (("d", (9,)),))))
        self.assertEqual(states[2], ((4,), (), (("", (), -1),), (), (), "done"))

    def test_somewhat_beyond_the_bounds(self):
        """A list of more things, a number beyond and rows deeper than a program's are run all the same."""
        row = ("set", "a", ("plus", ("box", "a"), ("number", 1)))
        for _ in range(7):
            row = ("if", ("number", 1), (row,), ())
        machine = Machine(((("a", 1000000),), (("l", (1,) * 14),), (), (row, ("push", "l", ("box", "a")))))
        state = machine.first()
        while state[5] == "on":
            state, note = machine.step(state)
        self.assertEqual((state[0], state[1], state[5]), ((1,), ((1,) * 14,), "broken"))


if __name__ == "__main__":
    unittest.main()
