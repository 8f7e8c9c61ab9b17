"""Loops and benches with plans that fit them, for tests that hold for every plan."""

import grounds
import samples
from lapwork.planner import planned
from lapwork.plans import fault, serial


def serial_plans(count):
    for seed in range(count):
        loop, bench = samples.some_loop(seed), samples.some_bench(seed)
        yield loop, bench, *serial(loop, bench)


def best_plans(count, tight):
    """Of the planner: for loops of all sorts, and for loops of few rows with tight rings."""
    for seed in range(count):
        loop, bench = samples.some_loop(seed), samples.some_bench(seed)
        yield loop, bench, *planned(loop, bench)[:2]
    for seed in range(tight):
        loop, bench = grounds.tight(seed, 1, 8)
        yield loop, bench, *planned(loop, bench)[:2]


def gapped_plans(count):
    """Of the same paces, with the rows moved apart by whole paces, or all of them by one tick, where that fits."""
    for seed in range(count):
        loop, bench = samples.some_loop(seed), samples.some_bench(seed)
        for pace, starts in (serial(loop, bench), planned(loop, bench)[:2]):
            later = [start + pace * number for number, start in enumerate(starts)]
            wide = [start + pace * (3 * number % 5) for number, start in enumerate(starts)]
            moved = [start + 1 for start in starts]
            for each in (later, wide, moved):
                if fault(loop, bench, pace, each) is None:
                    yield loop, bench, pace, each
