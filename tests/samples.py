"""Loops, benches and runs that several tests use, and what they mean, worked out by another way than the program's."""

import random

from lapwork.benches import Bench
from lapwork.loops import Loop

GREAT = 10 ** 60
TOP = GREAT - 1
WORDS = ("sum", "less", "times", "least", "most", "pick", "same", "tell", "take")
WANTS = {"sum": 2, "less": 2, "times": 2, "least": 2, "most": 2, "pick": 3, "same": 1, "tell": 1, "take": 0}
NAMES = "abcdefghijkl"

# Twelve rows: each deed, reads of numbers, of rows above, of the row itself, of later rows, and each back up to six.
EACH = [
    ("x", "take", ()),
    ("y", "take", ()),
    ("acc", "sum", (("acc", 1), ("x", 0))),
    ("gap", "less", (("x", 0), ("y", 6))),
    ("prod", "times", (("gap", 0), ("late", 2))),
    ("low", "least", (("prod", 1), ("x", 3))),
    ("high", "most", (("low", 0), ("high", 5))),
    ("which", "pick", (("high", 4), ("acc", 0), 77)),
    ("copy", "same", (("which", 0),)),
    ("out", "tell", (("copy", 1),)),
    ("late", "sum", (("out", 2), TOP)),
    ("last", "tell", (("late", 0),)),
]
# The greatest back by which each row of EACH is read, written out by hand.
EACH_DEEPEST = {
    "x": 3, "y": 6, "acc": 1, "gap": 0, "prod": 1, "low": 0, "high": 5, "which": 0, "copy": 1, "out": 2, "late": 2,
    "last": 0,
}

# Three rows, each at an arm of its own, of which the last one waits for itself.
CHAIN = Loop(97, [("x", "take", ()), ("a", "times", (("x", 0), 3)), ("b", "sum", (("a", 0), ("b", 1)))])
CHAIN_BENCH = Bench(
    [("door", 1), ("multer", 1), ("adder", 1)],
    [("take", "door", 1, 1), ("times", "multer", 4, 2), ("sum", "adder", 2, 1)],
)


def lone(count):
    """Rows without any tie, all at one arm of bench_of."""
    return Loop(97, [(name, "same", (1,)) for name in NAMES[:count]])


def rest_made(word, numbers, measure):
    rests = [number % measure for number in numbers]
    if word == "pick":
        return rests[1] if rests[0] else rests[2]
    if word in ("same", "tell", "take"):
        return rests[0]
    if word in ("least", "most"):
        return sorted(rests)[0 if word == "least" else 1]
    first, second = rests
    return {"sum": first + second, "less": first - second, "times": first * second}[word] % measure


def deepest_of(rows):
    found = {name: 0 for name, word, reads in rows}
    for name, word, reads in rows:
        for read in reads:
            if isinstance(read, tuple) and read[1] > found[read[0]]:
                found[read[0]] = read[1]
    return found


def meant(measure, rows, turns, feeds, begin):
    """A dict from (name, turn) to what is made, with the turns below nought that begin gives."""
    made = {}
    for name, depth in deepest_of(rows).items():
        for back in range(1, depth + 1):
            made[name, -back] = begin[name][back - 1] % measure
    for turn in range(turns):
        for name, word, reads in rows:
            numbers = [read if isinstance(read, int) else made[read[0], turn - read[1]] for read in reads]
            if word == "take":
                numbers = [feeds[name][turn]]
            made[name, turn] = rest_made(word, numbers, measure)
    return made


def meant_table(measure, rows, turns, feeds, begin):
    made = meant(measure, rows, turns, feeds, begin)
    return [(name, [made[name, turn] for turn in range(turns)]) for name, word, reads in rows]


def meant_outcome(measure, rows, turns, feeds, begin):
    made = meant(measure, rows, turns, feeds, begin)
    told = [(name, [made[name, turn] for turn in range(turns)]) for name, word, reads in rows if word == "tell"]
    depths = deepest_of(rows)
    ends = [(name, [made[name, turns - 1 - back] for back in range(depths[name])])
            for name, word, reads in rows if depths[name] > 0]
    return told, ends


def some_number(chance):
    figures = chance.choice((1, 1, 2, 5, 60))
    return chance.choice((1, -1)) * chance.randrange(10 ** figures)


def some_read(chance, place, count):
    if chance.random() < 0.2:
        return abs(some_number(chance))
    other = chance.randrange(count)
    least = 0 if other < place else 1
    return NAMES[other], chance.randint(least, chance.choice((1, 2, 6)))


def some_rows(chance, count=None):
    count = count or chance.randint(1, 12)
    rows = []
    for place in range(count):
        word = chance.choice(WORDS)
        reads = tuple([some_read(chance, place, count) for each in range(WANTS[word])])
        rows.append((NAMES[place], word, reads))
    return rows


def some_loop(seed, count=None):
    chance = random.Random(seed)
    measure = chance.choice((2, 3, 10, 97, 10 ** 9 + 7, GREAT))
    return Loop(measure, some_rows(chance, count))


def some_run(seed, loop, turns):
    """Feeds and begin with just what is needed, of numbers small and of sixty figures, of either sign."""
    chance = random.Random(seed)
    feeds = {name: [some_number(chance) for turn in range(turns)]
             for name, word, reads in loop.rows() if word == "take"}
    begin = {name: [some_number(chance) for back in range(depth)]
             for name, depth in deepest_of(loop.rows()).items() if depth > 0}
    return feeds, begin


def some_bench(seed):
    chance = random.Random(seed)
    arms = [(name, chance.randint(1, 4)) for name in NAMES[:chance.randint(1, 6)]]
    chance.shuffle(arms)
    works = [(word, chance.choice(arms)[0], chance.randint(1, 6), chance.randint(1, 6)) for word in WORDS]
    return Bench(arms, works)


def bench_of(delay=1, hold=1, width=1, others=()):
    """One arm for all words; others are works that stand in place of those with their word."""
    own = {task[0]: task for task in others}
    works = [own.get(word, (word, "arm", delay, hold)) for word in WORDS]
    return Bench([("arm", width)], works)


def bench_without(word):
    """One arm for all words but this one."""
    return Bench([("a", 4)], [(other, "a", 1, 1) for other in WORDS if other != word])
