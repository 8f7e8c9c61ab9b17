"""The least pace: a plan that fits, and for each lesser pace the ground why none does."""

from lapwork.climbs import climbed, longest_ways
from lapwork.plans import first_overfull, serial
from lapwork.trees import Setting, stretch, with_rest
from lapwork.tries import packed, pushed

# Each look makes one tree at most, so trees stay well within what closes is told for. Where the cases are a hundred at
# most, all trees together are fewer than 200, so that the looks never run out there.
MOST_LOOKS = 2000


def looked(loop, bench, pace):
    whole = serial(loop, bench)
    # Where rows have time enough to be done one after the other, a longer pace does no harm.
    if pace >= whole[0]:
        return ("plan", whole[1])
    setting = Setting(loop, bench, pace)
    for name in bench.arms():
        if setting.is_full(name):
            return ("shut", ("full", name))
    rests = setting.first_rests()
    met = climbed(setting.bonds, setting.stretches(rests), [0] * len(rests))
    if met[0] == "shut":
        return met
    # First pushed, whose starts lie closer together.
    starts = pushed(setting)
    if starts is None:
        starts = packed(setting)
    if starts is not None:
        return ("plan", starts)
    return Search(setting).found(0, rests, met[1])


# It ends at the pace of serial at the latest, since there looked always has a plan.
def planned(loop, bench):
    grounds = []
    pace = 1
    met = looked(loop, bench, pace)
    while met[0] != "plan":
        grounds.append(met)
        pace += 1
        met = looked(loop, bench, pace)
    return (pace, met[1], grounds)


# Goes through the cases one by one, and tells for each what looked tells for all.
class Search:
    def __init__(self, setting):
        self.setting = setting
        self.looks = 0

    # The row is the one whose rest the case says newly, so its arm alone can have become overfull; lows are starts
    # below which no plan of the case need begin.
    def found(self, row, rests, lows):
        self.looks += 1
        if self.looks > MOST_LOOKS:
            return ("open",)
        name = self.setting.works[row][0]
        overfull = first_overfull(self.setting.counts(name, rests), self.setting.bench.width(name))
        if overfull is not None:
            return ("shut", ("arm", name, overfull))
        met = climbed(self.setting.bonds, self.setting.stretches(rests), lows_in(rests, lows, self.setting.pace))
        if met[0] == "shut" or None not in rests:
            return met
        return self.found_parted(self.next_row(rests), rests, met[1])

    # Early ticks are tried first, since they leave most room behind them.
    def found_parted(self, row, rests, starts):
        pace = self.setting.pace
        branches = [None] * pace
        for start in range(starts[row], starts[row] + pace):
            met = self.found(row, with_rest(rests, row, start % pace), starts)
            # A tree that is good without this row's rest speaks for all of its rests at once.
            if met[0] != "shut" or self.setting.is_good(met[1], rests):
                return met
            branches[start % pace] = met[1]
        return ("shut", ("part", row, branches))

    # With the fewest rests left, so that what can't be shows soon and trees stay small.
    def next_row(self, rests):
        ways = longest_ways(len(rests), self.setting.bonds, self.setting.stretches(rests))
        unsaid = [row for row, rest in enumerate(rests) if rest is None]
        return min(unsaid, key=lambda row: len(self.rests_left(row, rests, ways)))

    def rests_left(self, row, rests, ways):
        setting = self.setting
        counts = setting.counts(setting.works[row][0], rests)
        free = [rest for rest in range(setting.pace) if setting.has_room(row, rest, counts)]
        near = [bond for bond in setting.bonds if row in bond[:2] and ways[bond[1]][bond[0]] is not None]
        return [rest for rest in free if keeps_rings(near, ways, setting.pace, with_rest(rests, row, rest))]


def keeps_rings(bonds, ways, pace, rests):
    return all([stretch(bond, pace, rests) + ways[bond[1]][bond[0]] <= 0 for bond in bonds])


def lows_in(rests, starts, pace):
    lows = []
    for rest, start in zip(rests, starts):
        lows.append(start if rest is None else start + (rest - start) % pace)
    return lows
