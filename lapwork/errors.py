"""The refusals: one class for each, all under LapError and none under another one."""


class LapError(ValueError):
    pass


class NoDeed(LapError):
    pass


class NoMeasure(LapError):
    pass


class BadRows(LapError):
    pass


class BadName(LapError):
    pass


class Twice(LapError):
    pass


class BadCount(LapError):
    pass


class BadNumber(LapError):
    pass


class NoRow(LapError):
    pass


class BadBack(LapError):
    pass


class TooEarly(LapError):
    pass


class BadTurns(LapError):
    pass


class BadWidth(LapError):
    pass


class BadArms(LapError):
    pass


class NoArm(LapError):
    pass


class BadDelay(LapError):
    pass


class BadHold(LapError):
    pass


class BadPlan(LapError):
    pass


class Unfit(LapError):
    pass


class Short(LapError):
    def __init__(self, name):
        LapError.__init__(self, f"too few numbers for {name!r}")
        self.name = name


class BadText(LapError):
    def __init__(self, row):
        LapError.__init__(self, f"row {row} is of no form that is told")
        self.row = row
