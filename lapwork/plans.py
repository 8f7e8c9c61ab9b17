"""Plans: a pace and a start for each row, and whether they fit a loop and a bench."""

from lapwork.errors import BadPlan, Unfit
from lapwork.ties import ties, works_of

MOST_PACE = 200
MOST_START = 2000


def fault(loop, bench, pace, starts):
    bonds = ties(loop, bench)
    check_plan(pace, starts, len(loop.rows()))
    place = first_broken(bonds, pace, starts)
    if place is not None:
        return ("tie", place)
    works = works_of(loop, bench)
    for name in bench.arms():
        rest = first_overfull(counts_at(name, works, pace, starts), bench.width(name))
        if rest is not None:
            return ("arm", name, rest)
    return None


def serial(loop, bench):
    starts = []
    pace = 0
    for task in works_of(loop, bench):
        starts.append(pace)
        pace += max(task[1], task[2])
    return (pace, starts)


def check_plan(pace, starts, count):
    if not 1 <= pace <= MOST_PACE:
        raise BadPlan("a pace is from 1 to 200")
    if len(starts) != count:
        raise BadPlan("a plan has one start for each row")
    if not all([0 <= start <= MOST_START for start in starts]):
        raise BadPlan("a start is from 0 to 2000")


def check_fit(loop, bench, pace, starts):
    if fault(loop, bench, pace, starts) is not None:
        raise Unfit("the plan does not fit")


def first_broken(bonds, pace, starts):
    for place, bond in enumerate(bonds):
        if is_broken(bond[0], bond[1], bond[2], bond[3], pace, starts):
            return place
    return None


def is_broken(source, reader, back, delay, pace, starts):
    return starts[reader] + pace * back < starts[source] + delay


# Counted by rests, since a place that is kept in a tick is kept again a pace later, by the next turn.
def counts_at(name, works, pace, starts):
    counts = [0] * pace
    for task, start in zip(works, starts):
        if task[0] == name:
            for tick in range(start, start + task[2]):
                counts[tick % pace] += 1
    return counts


def first_overfull(counts, width):
    for rest, count in enumerate(counts):
        if count > width:
            return rest
    return None
