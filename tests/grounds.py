"""Loops with tight rings, and trees and plans looked at by another way than the program's."""

import itertools
import random

from lapwork.benches import Bench
from lapwork.loops import Loop
from samples import NAMES, WANTS, WORDS


def near_read(chance, place, count):
    """Mostly of rows just above and of as few turns back as may be, so that rings are tight."""
    other = chance.randrange(count)
    if place > 0 and chance.random() < 0.6:
        other = max(0, place - chance.randint(1, 3))
    least = 0 if other < place else 1
    return NAMES[other], least + (chance.randint(0, 2) if chance.random() < 0.2 else 0)


def tight(seed, least=2, most=12):
    """A loop whose rows mostly wait for one another, and a bench of few places."""
    chance = random.Random(seed)
    count = chance.randint(least, most)
    rows = []
    for place in range(count):
        word = chance.choice(("sum", "less", "times", "least", "most", "pick", "same", "tell"))
        rows.append((NAMES[place], word, tuple([near_read(chance, place, count) for each in range(WANTS[word])])))
    arms = [(name, chance.choice((1, 1, 2))) for name in ("left", "right", "back")[:chance.randint(1, 3)]]
    works = [(word, chance.choice(arms)[0], chance.randint(1, 6), chance.choice((1, 1, 2, 3, 4))) for word in WORDS]
    return Loop(97, rows), Bench(arms, works)


def all_ties(loop, bench):
    """The ties, each as (source, reader, back, delay), in the order of point 15."""
    rows = loop.rows()
    names = [row[0] for row in rows]
    found = {}
    for reader, row in enumerate(rows):
        for read in row[2]:
            if isinstance(read, tuple):
                source = names.index(read[0])
                found[source, reader, read[1], bench.work(rows[source][1])[1]] = True
    return list(found)


def stretch_in(tie, pace, case):
    source, reader, back, delay = tie
    length = delay - pace * back
    if source in case and reader in case:
        while (length - case[reader] + case[source]) % pace != 0:
            length += 1
    return length


def pairs_at(loop, bench, pace, case, name, rest):
    """How many pairs (row, k) at an arm leave a rest; case is a dict from row numbers to rests or starts."""
    found = 0
    for row, start in case.items():
        arm, delay, hold = bench.work(loop.rows()[row][1])
        if arm == name:
            found += len([k for k in range(hold) if (start + k) % pace == rest])
    return found


def goes_round(bonds):
    return all(bonds[place - 1][1] == bond[0] for place, bond in enumerate(bonds))


def good(loop, bench, pace, tree, case):
    """Point 20, word by word."""
    if tree[0] == "ring":
        bonds = all_ties(loop, bench)
        if tree[1] == [] or min(tree[1]) < 0 or max(tree[1]) >= len(bonds):
            return False
        ring = [bonds[place] for place in tree[1]]
        return goes_round(ring) and sum(stretch_in(tie, pace, case) for tie in ring) > 0
    if tree[0] == "arm":
        if tree[1] not in bench.arms() or tree[2] not in range(pace):
            return False
        return pairs_at(loop, bench, pace, case, tree[1], tree[2]) > bench.width(tree[1])
    if tree[0] == "full":
        holds = [bench.work(row[1])[2] for row in loop.rows() if bench.work(row[1])[0] == tree[1]]
        return tree[1] in bench.arms() and sum(holds) > bench.width(tree[1]) * pace
    row, branches = tree[1:]
    if row not in range(len(loop.rows())) or row in case or len(branches) != pace:
        return False
    return all(good(loop, bench, pace, branch, {**case, row: rest}) for rest, branch in enumerate(branches))


def count_and_depth(tree):
    """How many trees there are in all, and how many within one another."""
    if tree[0] != "part":
        return 1, 1
    below = [count_and_depth(branch) for branch in tree[2]]
    return 1 + sum(count for count, depth in below), 1 + max([depth for count, depth in below], default=0)


def is_roomy(loop, bench, pace, case):
    return all(pairs_at(loop, bench, pace, case, name, rest) <= bench.width(name)
               for name in bench.arms() for rest in range(pace))


def raised_starts(loop, bench, pace, rests):
    """The least starts of these rests that keep all ties, or None; what is above the bound never comes to rest."""
    starts = list(rests)
    bonds = all_ties(loop, bench)
    bound = (len(rests) + 1) * (pace + 6)
    while max(starts) <= bound:
        late = [tie for tie in bonds if starts[tie[1]] + pace * tie[2] < starts[tie[0]] + tie[3]]
        if not late:
            return starts
        for source, reader, back, delay in late:
            if starts[reader] + pace * back < starts[source] + delay:
                starts[reader] += pace
    return None


def some_plan(loop, bench, pace):
    """Starts that fit, found by going through all rests, or None where there are none."""
    for rests in itertools.product(range(pace), repeat=len(loop.rows()) - 1):
        rests = (0,) + rests
        if is_roomy(loop, bench, pace, dict(enumerate(rests))):
            starts = raised_starts(loop, bench, pace, rests)
            if starts is not None:
                return starts
    return None


def has_full_arm(loop, bench, pace):
    return any(good(loop, bench, pace, ("full", name), {}) for name in bench.arms())


def has_ring(loop, bench, pace):
    """Whether some ring of ties sums to more than 0 where nothing is said of any rest."""
    count = len(loop.rows())
    far = {(row, row): 0 for row in range(count)}
    for step in range(count):
        further = dict(far)
        for (first, last), length in far.items():
            for tie in all_ties(loop, bench):
                if tie[0] == last:
                    sum_of_both = length + stretch_in(tie, pace, {})
                    if tie[1] == first and sum_of_both > 0:
                        return True
                    further[first, tie[1]] = max(further.get((first, tie[1]), sum_of_both), sum_of_both)
        far = further
    return False


def may_be_open(loop, bench, pace):
    product = pace ** (len(loop.rows()) - 1)
    return product > 100 and not has_full_arm(loop, bench, pace) and not has_ring(loop, bench, pace)
