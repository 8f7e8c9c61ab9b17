"""Flat code worked out and done by another way than the program's."""

import random

from lapwork.sheets import Sheet
from samples import WANTS, WORDS, deepest_of, rest_made, some_number

FIELDS = ("pace", "held", "stages", "shorts", "ahead", "middle", "tails")


def fields(sheet):
    return tuple([getattr(sheet, field) for field in FIELDS])


def held_of(loop, bench, pace, starts):
    """The least number of boxes for each row that will do for every row: found by going up from the deepest."""
    held = max([1] + list(deepest_of(loop.rows()).values()))
    places = {row[0]: place for place, row in enumerate(loop.rows())}
    for reader, row in enumerate(loop.rows()):
        for read in row[2]:
            if isinstance(read, tuple):
                source = places[read[0]]
                lands = starts[source] + bench.work(loop.rows()[source][1])[1]
                # What the source makes held turns later must land behind the tick of the read.
                while lands + held * pace <= starts[reader] + pace * read[1]:
                    held += 1
    return held


def step_of(loop, bench, held, place, turn):
    rows = loop.rows()
    names = [row[0] for row in rows]
    name, word, reads = rows[place]
    boxes = [read if isinstance(read, int) else ("box", names.index(read[0]) * held + (turn - read[1]) % held)
             for read in reads]
    return (word, bench.work(word)[1], place * held + turn % held, boxes, name, turn)


def part_of(loop, bench, pace, starts, rounds, turns):
    """Point 27, tick by tick; turns is a list of those told."""
    held = held_of(loop, bench, pace, starts)
    ticks = []
    for number in rounds:
        for tick in range(pace):
            steps = []
            for place, start in enumerate(starts):
                turn = number - start // pace
                if start % pace == tick and turn in turns:
                    steps.append(step_of(loop, bench, held, place, turn))
            ticks.append(steps)
    return ticks


def flat_fields(loop, bench, pace, starts):
    """Point 28, word by word."""
    held = held_of(loop, bench, pace, starts)
    stages = max(starts) // pace + 1

    def part(first, last, turns):
        return part_of(loop, bench, pace, starts, range(first, last + 1), turns)

    every = range(0, 10 ** 6)
    shorts = [part(0, n + stages - 2, range(0, n)) for n in range(stages - 1)]
    shorts[:1] = [[]] if shorts else []
    ahead = part(0, stages - 2, every)
    middle = part(stages - 1, stages + held - 2, every)
    tails = [part(stages - 1, 2 * stages + r - 3, range(0, stages + r - 1)) for r in range(held)]
    return (pace, held, stages, shorts, ahead, middle, tails)


def unrolled(sheet, turns):
    """All ticks of a run, one after the other, each a list of (step, turn)."""
    if turns < sheet.stages - 1:
        return [[(step, step[5]) for step in tick] for tick in sheet.shorts[turns]]
    ticks = [[(step, step[5]) for step in tick] for tick in sheet.ahead]
    left = turns - sheet.stages + 1
    later = 0
    while left >= sheet.held:
        ticks.extend([[(step, step[5] + later) for step in tick] for tick in sheet.middle])
        later += sheet.held
        left -= sheet.held
    ticks.extend([[(step, step[5] + later) for step in tick] for tick in sheet.tails[left]])
    return ticks


def done(measure, sheet, turns, feeds, boxes):
    """Point 29: every tick goes through all that has begun and asks each whether it lands now."""
    boxes = list(boxes)
    begun, made = [], []
    ticks = unrolled(sheet, turns)
    for tick, steps in enumerate(ticks + [[]] * 6):
        for due, box, number in begun:
            if due == tick:
                boxes[box] = number
        for (word, delay, box, reads, name, offset), turn in steps:
            numbers = [boxes[read[1]] if isinstance(read, tuple) else read for read in reads]
            number = rest_made(word, [feeds[name][turn]] if word == "take" else numbers, measure)
            begun.append((tick + delay, box, number))
            if word == "tell":
                made.append((name, turn, number))
    return made, boxes


def some_step(chance, boxes):
    word = chance.choice(WORDS + ("tell",))
    reads = [("box", chance.randrange(boxes)) if chance.random() < 0.8 else abs(some_number(chance))
             for each in range(WANTS[word])]
    return (word, chance.randint(1, 6), chance.randrange(boxes), reads, chance.choice(("a", "b", "c")), chance.randint(0, 9))


def some_part(chance, boxes):
    return [[some_step(chance, boxes) for each in range(chance.choice((0, 0, 1, 1, 2, 4)))]
            for tick in range(chance.choice((0, 1, 2, 5)))]


def some_sheet(seed):
    """A sheet that no loop has, with boxes enough, and feeds and boxes for it."""
    chance = random.Random(seed)
    boxes = chance.randint(1, 6)
    held, stages = chance.randint(1, 4), chance.randint(1, 4)
    sheet = Sheet(
        chance.choice((1, 7)), held, stages, [some_part(chance, boxes) for each in range(stages - 1)],
        some_part(chance, boxes), some_part(chance, boxes), [some_part(chance, boxes) for each in range(held)],
    )
    feeds = {name: [some_number(chance) for place in range(320)] for name in "abc"}
    return sheet, feeds, [some_number(chance) for box in range(boxes)]
