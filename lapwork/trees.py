"""Trees: grounds for why no plan of a pace fits, and whether they hold.

A case is a list of rests, one for each row: the rest that it says of the row's start, or None.
"""

from lapwork.plans import counts_at
from lapwork.ties import ties, works_of


def closes(loop, bench, pace, tree):
    setting = Setting(loop, bench, pace)
    return setting.is_good(tree, setting.first_rests())


# A loop on a bench at one pace, looked over once, since a tree asks for the same ties again and again.
class Setting:
    def __init__(self, loop, bench, pace):
        self.bonds = ties(loop, bench)
        self.works = works_of(loop, bench)
        self.bench = bench
        self.pace = pace

    # Whatever fits can be moved so that row 0 has the rest 0.
    def first_rests(self):
        return [0] + [None] * (len(self.works) - 1)

    def is_good(self, tree, rests):
        if tree[0] == "ring":
            return self.is_good_ring(tree[1], rests)
        if tree[0] == "arm":
            return self.is_good_arm(tree[1], tree[2], rests)
        if tree[0] == "full":
            return self.is_full(tree[1])
        return self.is_good_part(tree[1], tree[2], rests)

    def is_good_ring(self, places, rests):
        if not places or not all([0 <= place < len(self.bonds) for place in places]):
            return False
        bonds = [self.bonds[place] for place in places]
        for bond, onward in zip(bonds, bonds[1:] + bonds[:1]):
            if bond[1] != onward[0]:
                return False
        return sum([stretch(bond, self.pace, rests) for bond in bonds]) > 0

    def is_good_arm(self, name, rest, rests):
        if name not in self.bench.arms() or not 0 <= rest < self.pace:
            return False
        return self.counts(name, rests)[rest] > self.bench.width(name)

    def is_full(self, name):
        if name not in self.bench.arms():
            return False
        holds = [task[2] for task in self.works if task[0] == name]
        return sum(holds) > self.bench.width(name) * self.pace

    def is_good_part(self, row, branches, rests):
        if not 0 <= row < len(rests) or rests[row] is not None or len(branches) != self.pace:
            return False
        for rest, branch in enumerate(branches):
            if not self.is_good(branch, with_rest(rests, row, rest)):
                return False
        return True

    def stretches(self, rests):
        return [stretch(bond, self.pace, rests) for bond in self.bonds]

    # Only the rows of which the case says a rest are counted.
    def counts(self, name, rests):
        known = [row for row, rest in enumerate(rests) if rest is not None]
        return counts_at(name, [self.works[row] for row in known], self.pace, [rests[row] for row in known])

    # Whether a row can begin at a rest beside those counted at its arm; a hold above the pace comes round to itself.
    def has_room(self, row, rest, counts):
        width = self.bench.width(self.works[row][0])
        for tick in range(self.works[row][2]):
            if counts[(rest + tick) % self.pace] + tick // self.pace >= width:
                return False
        return True


def stretch(bond, pace, rests):
    least = bond[3] - pace * bond[2]
    source = rests[bond[0]]
    reader = rests[bond[1]]
    if source is None or reader is None:
        return least
    return least + (reader - source - least) % pace


def with_rest(rests, row, rest):
    return rests[:row] + [rest] + rests[row + 1:]
