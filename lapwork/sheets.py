"""Sheets: flat code for a loop, with the turns of a plan laid over one another."""

from lapwork.boxes import rings
from lapwork.ties import numbers_by_name, works_of


class Sheet:
    def __init__(self, pace, held, stages, shorts, ahead, middle, tails):
        self.pace = pace
        self.held = held
        self.stages = stages
        self.shorts = shorts
        self.ahead = ahead
        self.middle = middle
        self.tails = tails


# In round stages - 1 and from there on every row begins some turn; the rounds ahead of it are those that fill up.
def sheet_of(loop, bench, pace, starts):
    held = max(rings(loop, bench, pace, starts))
    stages = max(starts) // pace + 1
    layout = Layout(loop, bench, pace, starts, held)
    full = stages - 1
    shorts = [layout.part(0, turns + full, turns) if turns > 0 else [] for turns in range(full)]
    ahead = layout.part(0, full, full)
    middle = layout.part(full, full + held, full + held)
    tails = [layout.part(full, turns + full, turns) for turns in range(full, full + held)]
    return Sheet(pace, held, stages, shorts, ahead, middle, tails)


def box_of(row, held, turn):
    return row * held + turn % held


# Writes out the parts of one plan. It lives no longer than one question, so it keeps starts as they came.
class Layout:
    def __init__(self, loop, bench, pace, starts, held):
        self.pace = pace
        self.starts = starts
        self.held = held
        self.steps = first_steps(loop, bench, held)

    # The rounds from first on and ahead of last, with the turns from 0 on and below turns. Rows are gone through one
    # after the other, so in each tick they stand in their order.
    def part(self, first, last, turns):
        ticks = [[] for tick in range(self.pace * (last - first))]
        for number, start in enumerate(self.starts):
            stage = start // self.pace
            for turn in range(max(0, first - stage), min(turns, last - stage)):
                ticks[start + self.pace * (turn - first)].append(self.step(number, turn))
        return ticks

    # Each step has a list of reads of its own, so that whoever changes one changes no other.
    def step(self, number, turn):
        like = self.steps[number][turn % self.held]
        return (like[0], like[1], like[2], list(like[3]), like[4], turn)


# For each row its steps at the turns 0 to held - 1: all that they hold but the turn comes again every held turns.
def first_steps(loop, bench, held):
    rows = loop.rows()
    numbers = numbers_by_name(rows)
    steps = []
    for row, task in zip(rows, works_of(loop, bench)):
        steps.append([step_at(row, task[1], numbers, held, turn) for turn in range(held)])
    return steps


def step_at(row, delay, numbers, held, turn):
    reads = [read_at(read, numbers, held, turn) for read in row[2]]
    return (row[1], delay, box_of(numbers[row[0]], held, turn), reads, row[0], turn)


def read_at(read, numbers, held, turn):
    if isinstance(read, int):
        return read
    return ("box", box_of(numbers[read[0]], held, turn - read[1]))
