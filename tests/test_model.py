"""Runs of programs made by chance, held beside those of another machine that goes its own way: [3.1] to [3.6]."""
import unittest
from collections import Counter

from model import Model
from retrace.machine import Machine
from retrace.programs import program_of, world_of
from samples import Lively, Maker, Refusing

MOST = 200


def run_of(machine):
    states, notes = [machine.first()], []
    while states[-1][5] == "on" and len(notes) < MOST:
        state, note = machine.step(states[-1])
        states.append(state)
        notes.append(note)
    return states, notes


class Beside(Refusing):
    def runs(self, maker):
        program = maker.program()
        world = maker.world(program)
        self.assertEqual((program_of(*program), world_of(world)), (program, world))
        machine = Machine(program, world)
        states, notes = run_of(machine)
        self.same((states, notes), Model(program, world).run(MOST))
        for state, note in zip(states, notes):
            self.assertEqual(machine.next_row(state), note[0])
        return states, notes

    def test_the_runs_are_alike(self):
        met = Counter()
        for seed in range(700):
            with self.subTest(seed=seed):
                states, notes = self.runs(Lively(seed))
                met.update([states[-1][5]] + [note[1] for note in notes])
                met.update([f"depth {len(state[2])}" for state in states])
                met.update([f"left {len(ahead[2]) - len(behind[2])}" for ahead, behind, note in zip(states, states[1:], notes)
                            if note[5] >= 0])
        # Else the runs would show too little.
        for thing in ("on", "done", "broken", "call", "return", "off", "fault", "depth 8", "left 0", "left 1", "left 2"):
            self.assertGreater(met[thing], 5, thing)

    def test_programs_of_another_make(self):
        for seed in range(300):
            program = Maker(seed).program()
            machine = Machine(program)
            self.same(run_of(machine), Model(program).run(MOST))


if __name__ == "__main__":
    unittest.main()
