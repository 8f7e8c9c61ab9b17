"""Tries: quick ways to starts that fit, to be asked only where no arm is full and no ring closes.

Each of them tells starts, or None where it found none, which is no ground that there are none.
"""

from lapwork.climbs import climbed, longest_ways

MOST_PUSHES = 300


# One row behind the other at each arm, round and round: no arm becomes overfull so, and where no ring is in the way
# there is nothing else that could be amiss.
def packed(setting):
    ends = {}
    rests = []
    for task in setting.works:
        end = ends.get(task[0], 0)
        rests.append(end % setting.pace)
        ends[task[0]] = end + task[2]
    return starts_of(setting, rests)


# Each row takes its earliest tick, and pushes aside what is in its way where there is no room.
def pushed(setting):
    push = Push(setting)
    for step in range(MOST_PUSHES):
        row = push.first_waiting()
        if row is None:
            return push.least_starts()
        push.put(row)
    return None


class Push:
    def __init__(self, setting):
        count = len(setting.works)
        self.setting = setting
        self.lengths = setting.stretches([None] * count)
        self.order = by_height(longest_ways(count, setting.bonds, self.lengths))
        self.starts = [None] * count
        self.before = [-1] * count

    def first_waiting(self):
        for row in self.order:
            if self.starts[row] is None:
                return row
        return None

    def put(self, row):
        least = self.earliest(row)
        start = self.start_with_room(row, least)
        if start is None:
            # Later than the last time, or rows would push one another to and fro without end.
            start = max(least, self.before[row] + 1)
            self.push_from_arm(row, start)
        self.starts[row] = start
        self.before[row] = start
        self.push_readers(row)

    def earliest(self, row):
        least = 0
        for bond, length in zip(self.setting.bonds, self.lengths):
            if bond[1] == row and self.starts[bond[0]] is not None:
                least = max(least, self.starts[bond[0]] + length)
        return least

    def start_with_room(self, row, least):
        counts = self.setting.counts(self.setting.works[row][0], self.starts)
        for start in range(least, least + self.setting.pace):
            if self.setting.has_room(row, start, counts):
                return start
        return None

    def push_from_arm(self, row, start):
        kept = self.rests_kept(row, start)
        for other, task in enumerate(self.setting.works):
            if task[0] == self.setting.works[row][0] and self.starts[other] is not None:
                if any([rest in kept for rest in self.rests_kept(other, self.starts[other])]):
                    self.starts[other] = None

    def rests_kept(self, row, start):
        return [(start + tick) % self.setting.pace for tick in range(self.setting.works[row][2])]

    def push_readers(self, row):
        for bond, length in zip(self.setting.bonds, self.lengths):
            if bond[0] == row and self.starts[bond[1]] is not None:
                if self.starts[bond[1]] < self.starts[row] + length:
                    self.starts[bond[1]] = None

    # Pushes may have driven the starts far up, where only their rests matter.
    def least_starts(self):
        return starts_of(self.setting, [start % self.setting.pace for start in self.starts])


# The least starts of these rests that keep all ties.
def starts_of(setting, rests):
    met = climbed(setting.bonds, setting.stretches(rests), rests)
    return met[1] if met[0] == "plan" else None


# First the rows behind which most is to follow.
def by_height(ways):
    heights = [max([length for length in line if length is not None], default=0) for line in ways]
    return sorted(range(len(ways)), key=lambda row: -heights[row])
