"""The numbers of a program's rows, and what is told by them."""
from retrace.nodes import rows_within

NOTHING_AROUND = -1


def rows_of(program):
    triples = []
    for function in program[2]:
        number = len(triples)
        triples.append((number, ("def", function[0]), NOTHING_AROUND))
        add_rows(triples, function[3], number)
    add_rows(triples, program[3], NOTHING_AROUND)
    return triples


def add_rows(triples, rows, around):
    for row in rows:
        number = len(triples)
        triples.append((number, row, around))
        add_rows(triples, rows_within(row), number)


def doors_of(program):
    return sorted(set([row[2] for number, row, around in rows_of(program) if row[0] == "ask"]))
