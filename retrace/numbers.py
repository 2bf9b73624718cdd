"""The numbers of a program's rows, and what is told by them."""
from retrace.nodes import parts_within

# Stands in the place of a row's number where there is no such row.
NO_ROW = -1


def rows_of(program):
    triples = []
    for function in program[2]:
        number = len(triples)
        triples.append((number, ("def", function[0]), NO_ROW))
        add_rows(triples, function[3], number)
    add_rows(triples, program[3], NO_ROW)
    return triples


def add_rows(triples, rows, around):
    for row in rows:
        number = len(triples)
        triples.append((number, row, around))
        for part in parts_within(row):
            add_rows(triples, part, number)


def doors_of(program):
    return sorted(set([row[2] for number, row, around in rows_of(program) if row[0] == "ask"]))
