"""The names, arguments and values that the whole program promises."""

import importlib
import inspect
import unittest

from lapwork.benches import Bench
from lapwork.errors import BadText, LapError, Short
from lapwork.loops import Loop
from lapwork.sheets import Sheet

FUNCTIONS = {
    "deeds": {"deed_of": ["word"]},
    "meaning": {
        "table": ["loop", "turns", "feeds", "begin"],
        "outcome": ["loop", "turns", "feeds", "begin"],
    },
    "ties": {"ties": ["loop", "bench"]},
    "plans": {"fault": ["loop", "bench", "pace", "starts"], "serial": ["loop", "bench"]},
    "trees": {"closes": ["loop", "bench", "pace", "tree"]},
    "planner": {"looked": ["loop", "bench", "pace"], "planned": ["loop", "bench"]},
    "boxes": {"lives": ["loop", "bench", "pace", "starts"], "rings": ["loop", "bench", "pace", "starts"]},
    "walks": {"walked": ["loop", "bench", "pace", "starts", "turns", "feeds", "begin"]},
    "sheets": {"sheet_of": ["loop", "bench", "pace", "starts"]},
    "machine": {
        "run": ["measure", "sheet", "turns", "feeds", "boxes"],
        "filled": ["loop", "held", "begin"],
        "emptied": ["loop", "held", "turns", "boxes"],
        "laid": ["loop", "bench", "pace", "starts", "turns", "feeds", "begin"],
    },
    "texts": {"loop_shown": ["loop"], "bench_shown": ["bench"], "loop_read": ["text"], "bench_read": ["text"]},
    "desk": {"worked": ["loop_text", "bench_text", "turns", "feeds", "begin"]},
}
CLASSES = {
    Loop: (["measure", "rows"], {"rows": [], "deepest": ["name"]}),
    Bench: (["arms", "works"], {"work": ["word"], "width": ["arm"], "arms": []}),
    Sheet: (["pace", "held", "stages", "shorts", "ahead", "middle", "tails"], {}),
}
ERRORS = (
    "NoDeed NoMeasure BadRows BadName Twice BadCount BadNumber NoRow BadBack TooEarly BadTurns BadWidth BadArms NoArm "
    "BadDelay BadHold BadPlan Unfit Short BadText"
).split()
DEEDS = "Sum Less Times Least Most Pick Same Tell Take".split()


def arguments(ask):
    return list(inspect.signature(ask).parameters)


class Interface(unittest.TestCase):
    def module(self, name):
        return importlib.import_module("lapwork." + name)

    def test_functions(self):
        for name, promised in FUNCTIONS.items():
            for word, handed in promised.items():
                self.assertEqual(arguments(getattr(self.module(name), word)), handed, word)

    def test_classes(self):
        for kind, (handed, methods) in CLASSES.items():
            self.assertEqual(arguments(kind), handed)
            for name, wanted in methods.items():
                self.assertEqual(arguments(getattr(kind, name)), ["self"] + wanted)

    def test_deeds(self):
        deeds = self.module("deeds")
        for name in DEEDS:
            kind = getattr(deeds, name)
            self.assertTrue(issubclass(kind, deeds.Deed))
            self.assertEqual(arguments(kind), [])
            self.assertEqual((arguments(kind.wants), arguments(kind.of)), (["self"], ["self", "numbers", "measure"]))
            self.assertIs(type(deeds.deed_of(name.lower())), kind)

    def test_errors(self):
        errors = self.module("errors")
        self.assertEqual(LapError.__bases__, (ValueError,))
        for name in ERRORS:
            self.assertEqual(getattr(errors, name).__bases__, (LapError,), name)

    def test_fields(self):
        self.assertEqual(Loop(7, [("a", "take", ())]).measure, 7)
        self.assertEqual((Short("a").name, BadText(3).row), ("a", 3))
        sheet = Sheet(1, 2, 3, [], [], [], [])
        self.assertEqual([name for name in CLASSES[Sheet][0] if not hasattr(sheet, name)], [])


if __name__ == "__main__":
    unittest.main()
