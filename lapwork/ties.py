"""Ties: which row waits for what another one made, on a bench."""


def ties(loop, bench):
    found = []
    rows = loop.rows()
    works = works_of(loop, bench)
    numbers = numbers_by_name(rows)
    for reader, row in enumerate(rows):
        for name, back in looks_back(row):
            source = numbers[name]
            tie = (source, reader, back, works[source][1])
            if tie not in found:
                found.append(tie)
    return found


# Every row's work is asked for, also of a row that has no tie, since each one must be done at some arm.
def works_of(loop, bench):
    return [bench.work(row[1]) for row in loop.rows()]


def numbers_by_name(rows):
    numbers = {}
    for number, row in enumerate(rows):
        numbers[row[0]] = number
    return numbers


def looks_back(row):
    return [read for read in row[2] if not isinstance(read, int)]
