"""What the tests of runs share: programs by their texts, walked from the first state on."""
from collections import namedtuple

from retrace.machine import Machine
from retrace.reading import read
from samples import Refusing

State = namedtuple("State", "boxes lists frames asked told word")
Note = namedtuple("Note", "row kind reads wrote caller catcher")


def walked(text, world=None, most=200):
    """The states of a run, the first one among them, and the notes of its steps."""
    machine = Machine(read(text), world)
    states, notes = [machine.first()], []
    while states[-1][5] == "on" and len(notes) < most:
        state, note = machine.step(states[-1])
        states.append(state)
        notes.append(note)
    return [State(*state) for state in states], [Note(*note) for note in notes]


def behind(text, steps, world=None):
    """The state behind so many steps."""
    states, notes = walked(text, world, steps)
    return states[steps]


def end(text, world=None):
    """The last state of a run that ends."""
    states, notes = walked(text, world)
    return states[-1]


def note_of(text, step, world=None):
    states, notes = walked(text, world, step)
    return notes[step - 1]


def owns(depth, names):
    return tuple([("own", depth, name) for name in names])


class Running(Refusing):
    def goes(self, text, rows, word="done", world=None):
        """The run does just these rows, by their numbers, and has that word then."""
        states, notes = walked(text, world, len(rows))
        self.assertEqual([note.row for note in notes], list(rows))
        self.assertEqual(states[-1].word, word)

    def tells(self, text, told, word="done", world=None):
        last = end(text, world)
        self.assertEqual((last.told, last.word), (tuple(told), word))
