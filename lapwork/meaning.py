"""What a loop means: what its rows make, turn after turn, of what is fed and of how it begins."""

from lapwork.deeds import deed_of
from lapwork.errors import BadTurns, Short

MOST_TURNS = 300


# It lives no longer than one question and only reads feeds and begin, so it keeps them as they were handed in.
class Run:
    def __init__(self, loop, feeds, begin):
        self.loop = loop
        self.feeds = feeds
        self.begin = begin
        self.made = {}
        for row in loop.rows():
            self.made[row[0]] = []

    def made_at(self, name, turn):
        if turn < 0:
            return self.begin[name][-turn - 1] % self.loop.measure
        return self.made[name][turn]

    def numbers_for(self, row, turn):
        if row[1] == "take":
            return [self.feeds[row[0]][turn]]
        return [self.number_read(read, turn) for read in row[2]]

    def number_read(self, read, turn):
        if isinstance(read, int):
            return read
        return self.made_at(read[0], turn - read[1])

    # A row of the same turn may be read by those below it, so each row's number is there at once.
    def do_turn(self, turn):
        for row in self.loop.rows():
            numbers = self.numbers_for(row, turn)
            self.made[row[0]].append(deed_of(row[1]).of(numbers, self.loop.measure))

    def last_made(self, name, turns):
        return [self.made_at(name, turns - 1 - back) for back in range(self.loop.deepest(name))]


def table(loop, turns, feeds, begin):
    done = done_run(loop, turns, feeds, begin)
    return [(row[0], done.made[row[0]]) for row in loop.rows()]


def outcome(loop, turns, feeds, begin):
    done = done_run(loop, turns, feeds, begin)
    told = [(row[0], done.made[row[0]]) for row in loop.rows() if row[1] == "tell"]
    deep = [row[0] for row in loop.rows() if loop.deepest(row[0]) > 0]
    return (told, [(name, done.last_made(name, turns)) for name in deep])


def done_run(loop, turns, feeds, begin):
    check_run(loop, turns, feeds, begin)
    done = Run(loop, feeds, begin)
    for turn in range(turns):
        done.do_turn(turn)
    return done


def check_run(loop, turns, feeds, begin):
    check_turns(turns)
    check_feeds(loop, turns, feeds)
    check_begin(loop, begin)


def check_turns(turns):
    if not 0 <= turns <= MOST_TURNS:
        raise BadTurns("a run has from 0 to 300 turns")


def check_feeds(loop, turns, feeds):
    for row in loop.rows():
        if row[1] == "take" and len(feeds.get(row[0], [])) < turns:
            raise Short(row[0])


def check_begin(loop, begin):
    for row in loop.rows():
        if len(begin.get(row[0], [])) < loop.deepest(row[0]):
            raise Short(row[0])
