"""Texts: loops and benches written down row by row, and read again."""

from lapwork.benches import Bench
from lapwork.errors import BadText
from lapwork.loops import Loop
from lapwork.names import is_lettered

FIGURES = "0123456789"
MOST_FIGURES = 61


def loop_shown(loop):
    measure = loop.measure
    lines = [f"measure {measure}"]
    for name, word, reads in loop.rows():
        lines.append(" ".join([name, "=", word] + [read_shown(read) for read in reads]))
    return "\n".join(lines)


def read_shown(read):
    if isinstance(read, int):
        return str(read)
    name = read[0]
    back = read[1]
    return f"{name}@{back}" if back > 0 else name


def bench_shown(bench):
    lines = []
    for name in bench.arms():
        width = bench.width(name)
        lines.append(f"arm {name} {width}")
    for word in bench.words():
        task = bench.work(word)
        lines.append(" ".join(["work", word, task[0], str(task[1]), str(task[2])]))
    return "\n".join(lines)


# The forms of all rows come ahead of what a loop refuses, so nothing is made of a row until all have been looked at.
def loop_read(text):
    lines = lines_of(text)
    check_loop_lines(lines)
    return Loop(int(lines[0][1]), [row_of(parts) for parts in lines[1:]])


def check_loop_lines(lines):
    if not is_measure_line(lines[0]):
        raise BadText(0)
    for number, parts in enumerate(lines[1:], start=1):
        if not is_row_line(parts):
            raise BadText(number)


def bench_read(text):
    lines = lines_of(text)
    check_bench_lines(lines)
    arms = [(parts[1], int(parts[2])) for parts in lines if parts[0] == "arm"]
    works = [(parts[1], parts[2], int(parts[3]), int(parts[4])) for parts in lines if parts[0] == "work"]
    return Bench(arms, works)


def check_bench_lines(lines):
    works = False
    for number, parts in enumerate(lines):
        if is_work_line(parts):
            works = True
        elif works or not is_arm_line(parts):
            raise BadText(number)


# Where two blanks stand side by side, ahead or behind, there is a part without signs, which is of no form.
def lines_of(text):
    return [line.split(" ") for line in text.split("\n")]


def is_measure_line(parts):
    return len(parts) == 2 and parts[0] == "measure" and is_figures(parts[1])


def is_row_line(parts):
    if len(parts) < 3 or parts[1] != "=":
        return False
    return is_lettered(parts[0]) and is_lettered(parts[2]) and all([is_read(part) for part in parts[3:]])


def is_read(part):
    halves = part.partition("@")
    if halves[1] == "":
        return is_figures(part) or is_lettered(part)
    return is_lettered(halves[0]) and is_figures(halves[2]) and halves[2] != "0"


def is_arm_line(parts):
    return len(parts) == 3 and parts[0] == "arm" and is_lettered(parts[1]) and is_figures(parts[2])


def is_work_line(parts):
    if len(parts) != 5 or parts[0] != "work":
        return False
    return all([is_lettered(part) for part in parts[1:3]]) and all([is_figures(part) for part in parts[3:]])


def is_figures(part):
    if not 1 <= len(part) <= MOST_FIGURES or not all([sign in FIGURES for sign in part]):
        return False
    return part == "0" or part[0] != "0"


def row_of(parts):
    return (parts[0], parts[2], tuple([read_of(part) for part in parts[3:]]))


def read_of(part):
    if is_figures(part):
        return int(part)
    halves = part.partition("@")
    return (halves[0], int(halves[2]) if halves[1] == "@" else 0)
