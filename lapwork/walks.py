"""Walks: all beginnings of a run, tick by tick."""

from lapwork.meaning import done_run
from lapwork.plans import check_fit


# In a plan that fits every read finds what the loop means it to find, so the numbers are those of the loop's own run.
def walked(loop, bench, pace, starts, turns, feeds, begin):
    check_fit(loop, bench, pace, starts)
    done = done_run(loop, turns, feeds, begin)
    rows = loop.rows()
    steps = []
    for tick, number, turn in beginnings(pace, starts, turns):
        row = rows[number]
        steps.append((tick, row[0], turn, done.numbers_for(row, turn), done.made_at(row[0], turn)))
    return steps


# Sorted by the tick and then by the row's number: a row begins once in a tick at most.
def beginnings(pace, starts, turns):
    found = []
    for number, start in enumerate(starts):
        for turn in range(turns):
            found.append((start + pace * turn, number, turn))
    return sorted(found)
