"""What rows do by their steps. Each reckons, and meets its faults, ahead of all that it changes."""
from retrace.numbers import NO_ROW
from retrace.programs import MOST_THINGS
from retrace.work import Fault, check_place, reckoned, replaced

FULL_LIST = 3
EMPTY_LIST = 4
TOO_DEEP = 5
MOST_FRAMES = 8


def do_set(work, row):
    work.write_box(row[1], reckoned(work, row[2]))


def do_push(work, row):
    number = reckoned(work, row[2])
    things = work.read_list(row[1])
    if len(things) >= MOST_THINGS:
        raise Fault(FULL_LIST)
    work.write_list(row[1], things + (number,))


def do_pop(work, row):
    things = work.read_list(row[2])
    if len(things) == 0:
        raise Fault(EMPTY_LIST)
    work.write_list(row[2], things[:-1])
    work.write_box(row[1], things[-1])


def do_put(work, row):
    place = reckoned(work, row[2])
    number = reckoned(work, row[3])
    things = work.read_list(row[1])
    check_place(things, place)
    work.write_list(row[1], replaced(things, place, number))


def do_ask(work, row):
    work.write_box(row[1], work.ask(row[2]))


def do_tell(work, row):
    work.told = work.told + (reckoned(work, row[1]),)


def do_if(work, row):
    paths = work.plan.paths
    number = work.point()
    work.move(paths.seconds[number] if reckoned(work, row[1]) == 0 else paths.firsts[number])


def do_while(work, row):
    paths = work.plan.paths
    number = work.point()
    work.move(paths.behind[number] if reckoned(work, row[1]) == 0 else paths.firsts[number])


def do_call(work, row):
    numbers = [reckoned(work, value) for value in row[3]]
    if len(work.frames) >= MOST_FRAMES:
        raise Fault(TOO_DEEP)
    work.enter(row[2], numbers)


def do_return(work, row):
    give_back(work, reckoned(work, row[1]))


def do_off(work, row):
    give_back(work, 0)


def do_fail(work, row):
    raise Fault(reckoned(work, row[1]))


def give_back(work, number):
    work.leave()
    # The frame that has called is at the calling row still.
    calling = work.point()
    work.write_box(work.plan.paths.rows[calling][1], number)
    work.move(work.plan.paths.behind[calling])


# Behind these comes what is behind them; the others say themselves what comes.
PLAIN_DEEDS = {
    "set": do_set,
    "push": do_push,
    "pop": do_pop,
    "put": do_put,
    "ask": do_ask,
    "tell": do_tell,
}
DEEDS = {
    "if": do_if,
    "while": do_while,
    "call": do_call,
    "return": do_return,
    "def": do_off,
    "fail": do_fail,
}
# The kinds of steps that are not plain, by their rows' words.
KINDS = {"call": "call", "return": "return", "def": "off"}


def do_row(work, number):
    """Does the row, and tells the kind of its step, or raises a fault."""
    row = work.plan.paths.rows[number]
    if row[0] in PLAIN_DEEDS:
        PLAIN_DEEDS[row[0]](work, row)
        work.move(work.plan.paths.behind[number])
    else:
        DEEDS[row[0]](work, row)
    return KINDS.get(row[0], "plain")


def catch(work, number):
    """Goes to the try that catches a fault of that number, and tells it; where none does, the run breaks."""
    paths = work.plan.paths
    while paths.catchers[work.point()] == NO_ROW and len(work.frames) > 1:
        work.leave()
    catcher = paths.catchers[work.point()]
    if catcher == NO_ROW:
        work.broken = True
    else:
        work.write_box(paths.rows[catcher][2], number)
        work.move(paths.seconds[catcher])
    return catcher
