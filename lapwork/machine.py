"""The machine: does flat code tick by tick, and lays a loop's run over boxes."""

from lapwork.deeds import deed_of
from lapwork.meaning import check_begin, check_run, check_turns
from lapwork.sheets import box_of, sheet_of


def run(measure, sheet, turns, feeds, boxes):
    check_turns(turns)
    machine = Machine(measure, feeds, boxes)
    over = turns - sheet.stages + 1
    if over < 0:
        machine.do_part(sheet.shorts[turns], 0)
    else:
        passings = over // sheet.held
        machine.do_part(sheet.ahead, 0)
        for passing in range(passings):
            machine.do_part(sheet.middle, sheet.held * passing)
        machine.do_part(sheet.tails[over % sheet.held], sheet.held * passings)
    machine.land_all()
    return (machine.made, machine.boxes)


# It lives no longer than one run: what it made and its boxes are handed on to the asker as they are.
class Machine:
    def __init__(self, measure, feeds, boxes):
        self.measure = measure
        self.feeds = feeds
        self.boxes = list(boxes)
        self.tick = 0
        self.due = {}
        self.made = []

    # Later is by how many turns this passing lies behind the turns that the steps tell.
    def do_part(self, part, later):
        for steps in part:
            self.land(self.tick)
            for word, delay, box, reads, name, offset in steps:
                turn = offset + later
                number = deed_of(word).of(self.numbers_got(word, reads, name, turn), self.measure)
                self.due.setdefault(self.tick + delay, []).append((box, number))
                if word == "tell":
                    self.made.append((name, turn, number))
            self.tick += 1

    def numbers_got(self, word, reads, name, turn):
        if word == "take":
            return [self.feeds[name][turn]]
        return [read if isinstance(read, int) else self.boxes[read[1]] for read in reads]

    # What lands in one tick has been put down as it began, so of two in one box the later one stays.
    def land(self, tick):
        landing = self.due.pop(tick, [])
        for box, number in landing:
            self.boxes[box] = number

    def land_all(self):
        for tick in sorted(self.due):
            self.land(tick)


def filled(loop, held, begin):
    check_begin(loop, begin)
    rows = loop.rows()
    boxes = [0] * (len(rows) * held)
    for number, row in enumerate(rows):
        for back in range(loop.deepest(row[0])):
            boxes[box_of(number, held, -1 - back)] = begin[row[0]][back] % loop.measure
    return boxes


def emptied(loop, held, turns, boxes):
    ends = []
    for number, row in enumerate(loop.rows()):
        depth = loop.deepest(row[0])
        if depth > 0:
            ends.append((row[0], [boxes[box_of(number, held, turns - 1 - back)] for back in range(depth)]))
    return ends


def laid(loop, bench, pace, starts, turns, feeds, begin):
    sheet = sheet_of(loop, bench, pace, starts)
    check_run(loop, turns, feeds, begin)
    done = run(loop.measure, sheet, turns, feeds, filled(loop, sheet.held, begin))
    return (told_by_row(loop, done[0]), emptied(loop, sheet.held, turns, done[1]))


# The turns of a row begin one after the other, so what it told stands in their order already.
def told_by_row(loop, made):
    told = []
    for row in loop.rows():
        if row[1] == "tell":
            told.append((row[0], [number for name, turn, number in made if name == row[0]]))
    return told
