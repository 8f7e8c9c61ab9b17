"""Boxes: how long what a row made is read, and in how many boxes it lies by turns."""

from lapwork.plans import check_fit
from lapwork.ties import ties, works_of


def lives(loop, bench, pace, starts):
    check_fit(loop, bench, pace, starts)
    lands = [start + task[1] for start, task in zip(starts, works_of(loop, bench))]
    lasts = [None] * len(lands)
    for source, reader, back, delay in ties(loop, bench):
        tick = starts[reader] + pace * back
        if lasts[source] is None or lasts[source] < tick:
            lasts[source] = tick
    return list(zip(lands, lasts))


def rings(loop, bench, pace, starts):
    sizes = []
    for row, life in zip(loop.rows(), lives(loop, bench, pace, starts)):
        sizes.append(ring_of(loop.deepest(row[0]), life[0], life[1], pace))
    return sizes


# In a plan that fits nothing is read ahead of its landing, so a row that is read has one box at least.
def ring_of(deepest, land, last, pace):
    if last is None:
        return 1
    return max(deepest, (last - land) // pace + 1)
