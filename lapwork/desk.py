"""The desk: texts in, and what comes of them out."""

from lapwork.machine import laid
from lapwork.planner import planned
from lapwork.texts import bench_read, loop_read


def worked(loop_text, bench_text, turns, feeds, begin):
    loop = loop_read(loop_text)
    bench = bench_read(bench_text)
    plan = planned(loop, bench)
    done = laid(loop, bench, plan[0], plan[1], turns, feeds, begin)
    return (plan[0], done[0], done[1])
