"""The nine deeds: each makes a rest, by a measure, of the numbers that it gets."""

from lapwork.errors import NoDeed


# What stands here is the rest of one number, so the deeds that make no more than that share it.
class Deed:
    def wants(self):
        return 1

    def of(self, numbers, measure):
        return numbers[0] % measure


class Sum(Deed):
    def wants(self):
        return 2

    def of(self, numbers, measure):
        return (numbers[0] + numbers[1]) % measure


class Less(Deed):
    def wants(self):
        return 2

    def of(self, numbers, measure):
        return (numbers[0] - numbers[1]) % measure


class Times(Deed):
    def wants(self):
        return 2

    def of(self, numbers, measure):
        return numbers[0] * numbers[1] % measure


class Least(Deed):
    def wants(self):
        return 2

    def of(self, numbers, measure):
        return min(numbers[0] % measure, numbers[1] % measure)


class Most(Deed):
    def wants(self):
        return 2

    def of(self, numbers, measure):
        return max(numbers[0] % measure, numbers[1] % measure)


class Pick(Deed):
    def wants(self):
        return 3

    def of(self, numbers, measure):
        if numbers[0] % measure == 0:
            return numbers[2] % measure
        return numbers[1] % measure


class Same(Deed):
    pass


class Tell(Deed):
    pass


class Take(Deed):
    # Its one number comes from without, so no read of the row stands for it.
    def wants(self):
        return 0


def deed_of(word):
    if word == "sum":
        return Sum()
    if word == "less":
        return Less()
    if word == "times":
        return Times()
    if word == "least":
        return Least()
    if word == "most":
        return Most()
    if word == "pick":
        return Pick()
    if word == "same":
        return Same()
    if word == "tell":
        return Tell()
    if word == "take":
        return Take()
    raise NoDeed(f"no deed is called {word!r}")
