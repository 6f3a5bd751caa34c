"""The errors of the package, those of later parts too."""


class BeltsError(ValueError):
    """The base of all errors of this package."""


class BadProgram(BeltsError):
    """The steps are those of no program; part tells why."""

    def __init__(self, part):
        self.part = part


class NoWay(BeltsError):
    """No way of the program, or of the place where a run stands."""


class NoPlace(BeltsError):
    """No place that may be asked about here."""


class NoRoute(BeltsError):
    """No route from the place."""


class NoName(BeltsError):
    """No name, or none that is known; name is the thing itself."""

    def __init__(self, name):
        self.name = name


class Over(BeltsError):
    """The run stands at an end."""


class NoNumber(BeltsError):
    """No number of what is counted here."""


class BadMachine(BeltsError):
    """The belts are those of no machine."""


class NoHolding(BeltsError):
    """No holding."""


class NoBelt(BeltsError):
    """No number of a belt."""


class NoCarries(BeltsError):
    """No carries in a row."""


class BadCode(BeltsError):
    """The parts make no code; part is the first that is wrong."""

    def __init__(self, part):
        self.part = part


class NotFull(BeltsError):
    """A place or a way that is not full."""


class NoWalk(BeltsError):
    """No walk from the place."""


class NoNames(BeltsError):
    """Not just the names of a piece."""


class OtherSize(BeltsError):
    """A machine of another size than is asked for."""


class TooLarge(BeltsError):
    """More rooms than most, the greatest number that is allowed."""

    def __init__(self, most):
        self.most = most


class NoSeating(BeltsError):
    """No seating."""


class NotRight(BeltsError):
    """A code that is not right."""


class TooSmall(BeltsError):
    """Fewer rooms than least, the smallest number that is allowed."""

    def __init__(self, least):
        self.least = least


class NoRing(BeltsError):
    """No plain ring."""


class NotStrong(BeltsError):
    """A piece that is not strong."""


class NotStraight(BeltsError):
    """A program that is not straight."""


class BadText(BeltsError):
    """A text that cannot be read; line is the number of the first bad line."""

    def __init__(self, line):
        self.line = line


class NoLine(BeltsError):
    """No line that the desk knows."""


class Faulty(BeltsError):
    """A program with faults; place and name are the first one."""

    def __init__(self, place, name):
        self.place = place
        self.name = name


class NoneLed(BeltsError):
    """No code is led."""


class BadNeed(BeltsError):
    """A program whose need is too small or too great."""


class NothingDone(BeltsError):
    """There is nothing to take back."""
