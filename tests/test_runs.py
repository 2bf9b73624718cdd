"""Runs from their beginning: state_at, notes, run_length; and what [0.1], [0.2] (a) and [0.3] say of them."""
import copy
import inspect
import unittest

from retrace.errors import NoStep
from retrace.machine import Machine
from retrace.reading import read
from retrace.runs import notes, run_length, state_at
from running import Running, walked
from samples import NOTHING, OTHER_KINDS, Lively

TEXT = ("box a 0\nbox b 2\nlist l 1\ndef f p\npush l box p\nend\nwhile box b\nask a d\ncall a f box a\n"
        "set b minus box b number 1\nend\n")
WORLD = (("d", (4, 5)),)
LENGTH = 13
BROKEN = "box a 0\ntell box a\nfail number 1\ntell box a\n"
FOR_EVER = "box a 0\nwhile number 1\nset a plus box a number 1\nend\n"
NO_STEPS = (-1, 2001, 10 ** 9, -(10 ** 9), 0.0, 1.0, "0", "1", "", b"1") + OTHER_KINDS


def machine(text=TEXT, world=WORLD):
    return Machine(read(text), world)


class StateAt(Running):
    def test_none_some_and_all_steps(self):
        states, told = walked(TEXT, WORLD)
        self.assertEqual(len(told), LENGTH)
        for steps in range(LENGTH + 1):
            self.same(state_at(machine(), steps), tuple(states[steps]))

    def test_by_hand(self):
        self.same(state_at(machine(), 0), ((0, 2), ((1,),), (("", (), 2),), (0,), (), "on"))
        self.same(state_at(machine(), 3), ((4, 2), ((1,),), (("", (), 4), ("f", (4,), 1)), (1,), (), "on"))
        self.same(state_at(machine(), LENGTH), ((0, 0), ((1, 4, 5),), (("", (), -1),), (2,), (), "done"))

    def test_beyond_the_end(self):
        for steps in (LENGTH + 1, LENGTH + 2, 2000):
            self.refused(NoStep, state_at, machine(), steps)

    def test_of_a_run_that_breaks(self):
        self.same(state_at(machine(BROKEN), 2), ((0,), (), (("", (), 1),), (), (0,), "broken"))
        self.refused(NoStep, state_at, machine(BROKEN), 3)

    def test_of_a_run_without_steps(self):
        self.same(state_at(Machine(NOTHING), 0), ((), (), (("", (), -1),), (), (), "done"))
        self.refused(NoStep, state_at, Machine(NOTHING), 1)

    def test_2000_steps(self):
        self.same(state_at(machine(FOR_EVER), 1999), ((999,), (), (("", (), 1),), (), (), "on"))
        self.same(state_at(machine(FOR_EVER), 2000), ((1000,), (), (("", (), 0),), (), (), "on"))

    def test_what_is_no_whole_number_from_0_to_2000(self):
        for steps in NO_STEPS:
            self.refused(NoStep, state_at, machine(FOR_EVER), steps)


class Notes(Running):
    def test_none_some_and_all_steps(self):
        told = [tuple(note) for note in walked(TEXT, WORLD)[1]]
        for steps in range(LENGTH + 1):
            self.same(notes(machine(), steps), told[:steps])

    def test_by_hand(self):
        self.same(notes(machine(), 5), [
            (2, "plain", (("box", "b"),), (), -1, -1),
            (3, "plain", (), (("box", "a"),), -1, -1),
            (4, "call", (("box", "a"),), (("own", 1, "p"),), -1, -1),
            (1, "plain", (("list", "l"), ("own", 1, "p")), (("list", "l"),), 4, -1),
            (0, "off", (), (("box", "a"),), 4, -1),
        ])

    def test_beyond_the_end(self):
        for steps in (LENGTH + 1, LENGTH + 2, 2000):
            self.refused(NoStep, notes, machine(), steps)
        self.refused(NoStep, notes, machine(BROKEN), 3)
        self.assertEqual(len(notes(machine(BROKEN), 2)), 2)

    def test_of_a_run_without_steps(self):
        self.same(notes(Machine(NOTHING), 0), [])
        self.refused(NoStep, notes, Machine(NOTHING), 1)

    def test_2000_steps(self):
        self.assertEqual([note[0] for note in notes(machine(FOR_EVER), 2000)], [0, 1] * 1000)

    def test_what_is_no_whole_number_from_0_to_2000(self):
        for steps in NO_STEPS:
            self.refused(NoStep, notes, machine(FOR_EVER), steps)


class RunLength(Running):
    def test_how_many_steps_a_run_has(self):
        self.same(run_length(machine()), LENGTH)
        self.same(run_length(machine(BROKEN)), 2)
        self.same(run_length(Machine(NOTHING)), 0)

    def test_a_run_that_goes_on_for_ever(self):
        self.same(run_length(machine(FOR_EVER)), 2000)
        self.same(run_length(machine(FOR_EVER), 2000), 2000)
        self.same(run_length(machine(FOR_EVER), 7), 7)
        self.same(run_length(machine(FOR_EVER), most=1999), 1999)

    def test_runs_without_end_where_most_is_left_out(self):
        for text in (FOR_EVER, "while number 1\nend\n", "box a 0\nwhile number 1\nask a d\nend\n",
                     "box a 0\ndef f\nend\nwhile number 7\ncall a f\nend\n",
                     "box a 0\nwhile number 1\ntry\nfail number 3\ncatch a\nend\nend\n"):
            self.same(run_length(machine(text)), 2000)
            self.assertEqual(state_at(machine(text), 2000)[5], "on")

    def test_at_most_so_many(self):
        for most in range(2 * LENGTH):
            self.same(run_length(machine(), most), min(most, LENGTH))
        self.same(run_length(machine(), 0), 0)
        self.same(run_length(Machine(NOTHING), 5), 0)
        self.same(run_length(machine(), 2000), LENGTH)

    def test_a_run_of_just_2000_steps_and_of_more(self):
        head = "box a 999\nwhile box a\nset a minus box a number 1\nend\n"
        self.same(run_length(machine(head)), 1999)
        self.same(run_length(machine(head + "tell box a\n")), 2000)
        self.same(run_length(machine(head + "tell box a\ntell box a\n")), 2000)
        self.assertEqual(state_at(machine(head + "tell box a\n"), 2000)[5], "done")

    def test_what_is_no_whole_number_from_0_to_2000(self):
        for most in NO_STEPS:
            self.refused(NoStep, run_length, machine(), most)
            self.refused(NoStep, run_length, Machine(NOTHING), most)


class Interface(unittest.TestCase):
    def names(self, asked):
        found = inspect.signature(asked).parameters
        return [(name, found[name].default) for name in found]

    def test_arguments(self):
        left_out = inspect.Parameter.empty
        self.assertEqual(self.names(Machine), [("program", left_out), ("world", None)])
        self.assertEqual(self.names(Machine.first), [("self", left_out)])
        self.assertEqual(self.names(Machine.step), [("self", left_out), ("state", left_out)])
        self.assertEqual(self.names(Machine.next_row), [("self", left_out), ("state", left_out)])
        self.assertEqual(self.names(state_at), [("machine", left_out), ("steps", left_out)])
        self.assertEqual(self.names(notes), [("machine", left_out), ("steps", left_out)])
        self.assertEqual(self.names(run_length), [("machine", left_out), ("most", 2000)])


class AskersOwn(Running):
    def test_a_machine_that_is_used_twice_tells_the_same(self):
        used = machine()
        once = [(state_at(used, steps), notes(used, steps), run_length(used, steps)) for steps in range(LENGTH + 1)]
        self.same([(state_at(used, steps), notes(used, steps), run_length(used, steps)) for steps in range(LENGTH + 1)], once)
        self.same(used.first(), machine().first())

    def test_a_machine_behind_a_refusal(self):
        used = machine()
        for asked in (state_at, notes):
            self.refused(NoStep, asked, used, LENGTH + 1)
            self.refused(NoStep, asked, used, -1)
        self.refused(NoStep, run_length, used, 2001)
        self.same(state_at(used, LENGTH), state_at(machine(), LENGTH))
        self.same(notes(used, LENGTH), notes(machine(), LENGTH))
        self.same(run_length(used), LENGTH)

    def test_lists_that_were_told_are_the_askers(self):
        used = machine()
        told = notes(used, 4)
        kept = list(told)
        told.append("more")
        told[0] = None
        self.same(notes(used, 4), kept)
        told = notes(used, 4)
        notes(used, LENGTH)
        state_at(used, LENGTH)
        self.same(told, kept)

    def test_the_program_and_the_world_stay_as_they_were(self):
        program, world = read(TEXT), WORLD
        before = copy.deepcopy((program, world))
        used = Machine(program, world)
        notes(used, LENGTH)
        run_length(used)
        state_at(used, LENGTH)
        self.same((program, world), before)

    def test_two_machines_beside_one_another(self):
        one, other = machine(), machine(world=(("d", (7,)),))
        self.assertEqual(state_at(one, 2)[0], (4, 2))
        self.assertEqual(state_at(other, 2)[0], (7, 2))
        self.assertEqual(state_at(one, LENGTH)[1], ((1, 4, 5),))
        self.assertEqual(state_at(other, LENGTH)[1], ((1, 7, 0),))
        self.same(notes(one, LENGTH), notes(other, LENGTH))

    def test_runs_by_chance_are_told_alike_from_wherever(self):
        for seed in range(60):
            maker = Lively(seed)
            program = maker.program()
            used = Machine(program, maker.world(program))
            length = run_length(used, 60)
            told = notes(used, length)
            for steps in sorted({0, length // 3, length // 2, length}, reverse=True):
                self.same(notes(used, steps), told[:steps])
                state = state_at(used, steps)
                if steps < length:
                    self.same(used.step(state), (state_at(used, steps + 1), told[steps]))
                    self.assertEqual(used.next_row(state), told[steps][0])


if __name__ == "__main__":
    unittest.main()
