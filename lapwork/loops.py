"""Loops: a measure, and rows of deeds that read what rows made some turns back."""

from lapwork.deeds import deed_of
from lapwork.errors import BadBack, BadCount, BadName, BadNumber, BadRows, NoMeasure, NoRow, TooEarly, Twice
from lapwork.names import is_name

MOST_ROWS = 12
MOST_BACK = 6


class Loop:
    def __init__(self, measure, rows):
        check_measure(measure)
        check_rows(rows)
        self.measure = measure
        self.kept = [copy_of_row(row) for row in rows]
        self.depths = depths_of(self.kept)

    # A fresh list each time, so that the asker may change it.
    def rows(self):
        return list(self.kept)

    def deepest(self, name):
        return self.depths.get(name, 0)


def check_measure(measure):
    if not 2 <= measure <= 10 ** 60:
        raise NoMeasure("a measure is from 2 to 10 ** 60")


def check_rows(rows):
    if not 1 <= len(rows) <= MOST_ROWS:
        raise BadRows("a loop has one to twelve rows")
    # A read may name a later row, so all names are known ahead of the first check.
    names = [row[0] for row in rows]
    for place, row in enumerate(rows):
        above = names[:place]
        check_head(row[0], row[1], row[2], above)
        for read in row[2]:
            check_read(read, names, above)


def check_head(name, word, reads, above):
    if not is_name(name):
        raise BadName(f"{name!r} is no name")
    if name in above:
        raise Twice(f"a row above is called {name} already")
    if len(reads) != deed_of(word).wants():
        raise BadCount(f"row {name} has not as many reads as {word} wants")


def check_read(read, names, above):
    if isinstance(read, int):
        check_number(read)
    else:
        check_look_back(read[0], read[1], names, above)


def check_number(number):
    if not 0 <= number < 10 ** 60:
        raise BadNumber("a number that is read is from 0 to 10 ** 60 less one")


def check_look_back(name, back, names, above):
    if name not in names:
        raise NoRow(f"no row is called {name!r}")
    if not 0 <= back <= MOST_BACK:
        raise BadBack(f"row {name} is read from 0 to 6 turns back")
    if back == 0 and name not in above:
        raise TooEarly(f"row {name} has not made anything yet in this turn")


# Tuples all the way down, so that nothing of what was handed in can be changed behind the loop's back.
def copy_of_row(row):
    reads = [read if isinstance(read, int) else tuple(read) for read in row[2]]
    return (row[0], row[1], tuple(reads))


def depths_of(rows):
    depths = {}
    for row in rows:
        for read in row[2]:
            if not isinstance(read, int):
                depths[read[0]] = max(read[1], depths.get(read[0], 0))
    return depths
