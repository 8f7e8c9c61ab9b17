"""Climbs: starts raised until they keep every stretch, and how far the ways along ties stretch."""


# Told is ("plan", starts), or ("shut", ("ring", places)) where a ring of ties would raise starts without end.
def climbed(bonds, stretches, lows):
    starts = list(lows)
    causes = [None] * len(starts)
    raised = None
    # A way without a ring has fewer ties than there are rows, so what rises in the last passing has a ring behind it.
    for passing in range(len(starts)):
        raised = last_raised(bonds, stretches, starts, causes)
        if raised is None:
            return ("plan", starts)
    return ("shut", ("ring", ring_behind(raised, bonds, causes)))


# Raises starts on the spot; causes says of each row the place of the tie that raised it last.
def last_raised(bonds, stretches, starts, causes):
    raised = None
    for place, bond in enumerate(bonds):
        least = starts[bond[0]] + stretches[place]
        if starts[bond[1]] < least:
            starts[bond[1]] = least
            causes[bond[1]] = place
            raised = bond[1]
    return raised


def ring_behind(raised, bonds, causes):
    on_ring = raised
    # As many steps back as there are rows lead onto the ring, however far behind it one begins.
    for step in range(len(causes)):
        on_ring = bonds[causes[on_ring]][0]
    places = [causes[on_ring]]
    source = bonds[causes[on_ring]][0]
    while source != on_ring:
        places.append(causes[source])
        source = bonds[causes[source]][0]
    return list(reversed(places))


# From each row to each row the greatest sum of stretches on any way, or None where there is no way. To be asked only
# where no ring sums to more than 0, since else there is no greatest one.
def longest_ways(count, bonds, stretches):
    ways = [[None] * count for row in range(count)]
    for bond, length in zip(bonds, stretches):
        ways[bond[0]][bond[1]] = longer(ways[bond[0]][bond[1]], length)
    for middle in range(count):
        ways = [line_by_way_of(middle, line, ways[middle]) for line in ways]
    return ways


def line_by_way_of(middle, line, onward):
    if line[middle] is None:
        return line
    return [longer(length, sum_of(line[middle], further)) for length, further in zip(line, onward)]


def sum_of(length, further):
    return None if further is None else length + further


def longer(length, other):
    if length is None or other is None:
        return other if length is None else length
    return max(length, other)
