"""Benches: arms of some width, and works that say at which arm a deed is done and what while it takes."""

from lapwork.deeds import deed_of
from lapwork.errors import BadArms, BadDelay, BadHold, BadName, BadWidth, NoArm, Twice
from lapwork.names import is_name

MOST_ARMS = 6
MOST_WIDTH = 4
MOST_DELAY = 6
MOST_HOLD = 6


# Both dicts keep the order in which arms and works were handed in.
class Bench:
    def __init__(self, arms, works):
        check_arms(arms)
        check_works(works, [arm[0] for arm in arms])
        self.widths = {}
        for arm in arms:
            self.widths[arm[0]] = arm[1]
        self.tasks = {}
        for task in works:
            self.tasks[task[0]] = (task[1], task[2], task[3])

    def work(self, word):
        if word not in self.tasks:
            raise NoArm(f"no arm does {word!r}")
        return self.tasks[word]

    def width(self, arm):
        if arm not in self.widths:
            raise NoArm(f"no arm is called {arm!r}")
        return self.widths[arm]

    # A fresh list each time, so that the asker may change it.
    def arms(self):
        return list(self.widths)

    def words(self):
        return list(self.tasks)


# Each arm is looked at ahead of their count, so of seven arms a bad one is told first.
def check_arms(arms):
    above = []
    for arm in arms:
        check_arm(arm[0], arm[1], above)
        above.append(arm[0])
    if not 1 <= len(arms) <= MOST_ARMS:
        raise BadArms("a bench has one to six arms")


def check_arm(name, width, above):
    if not is_name(name):
        raise BadName(f"{name!r} is no name")
    if name in above:
        raise Twice(f"an arm above is called {name} already")
    if not 1 <= width <= MOST_WIDTH:
        raise BadWidth(f"the width of arm {name} is from 1 to 4")


def check_works(works, names):
    above = []
    for task in works:
        check_word(task[0], above)
        check_task(task[1], task[2], task[3], names)
        above.append(task[0])


def check_word(word, above):
    # Asked for its refusal alone.
    deed_of(word)
    if word in above:
        raise Twice(f"a work above has the word {word} already")


def check_task(arm, delay, hold, names):
    if arm not in names:
        raise NoArm(f"no arm is called {arm!r}")
    if not 1 <= delay <= MOST_DELAY:
        raise BadDelay("a delay is from 1 to 6")
    if not 1 <= hold <= MOST_HOLD:
        raise BadHold("a hold is from 1 to 6")
