"""The errors of the package: each field holds the value that was passed."""


class YardError(ValueError):
    """The base of the errors about an argument."""


class YardStateError(RuntimeError):
    """The base of the errors about valid arguments that do not go together."""


class InvalidYard(YardError):
    """A value is not a yard."""

    def __init__(self, part, index):
        self.part = part
        self.index = index


class InvalidArrangement(YardError):
    """A value is not an arrangement of the yard."""

    def __init__(self, part, index):
        self.part = part
        self.index = index


class InvalidWagon(YardError):
    """A value is not a wagon of the yard."""

    def __init__(self, wagon):
        self.wagon = wagon


class InvalidStep(YardError):
    """A value is not a step."""

    def __init__(self, step):
        self.step = step


class InvalidSchedule(YardError):
    """A value is not a schedule."""

    def __init__(self, index):
        self.index = index


class InvalidRounds(YardError):
    """A value is not a tuple of rounds."""

    def __init__(self, index):
        self.index = index


class InvalidPins(YardError):
    """A value is not a tuple of pins."""

    def __init__(self, index):
        self.index = index


class InvalidDrag(YardError):
    """An argument is not a drag."""

    def __init__(self, index):
        self.index = index


class InvalidPlace(YardError):
    """A value is not a place."""

    def __init__(self, place):
        self.place = place


class TooLarge(YardError):
    """Arguments go beyond the limit of a function."""

    def __init__(self, limit):
        self.limit = limit


class InvalidTargets(YardError):
    """A value is not a tuple of targets."""

    def __init__(self, index):
        self.index = index


class InvalidWeights(YardError):
    """A value is not a tuple of weights."""

    def __init__(self, index):
        self.index = index


class InvalidForces(YardError):
    """A value is not a tuple of forces."""

    def __init__(self, index):
        self.index = index


class InvalidDurations(YardError):
    """Arguments are not the durations of the wagons."""

    def __init__(self, index):
        self.index = index


class InvalidNumber(YardError):
    """A value is not the number of an arrangement."""

    def __init__(self, number):
        self.number = number


class InvalidCount(YardError):
    """A value is not a count of calls."""

    def __init__(self, count):
        self.count = count


class InvalidText(YardError):
    """A value is not the text of a yard."""

    def __init__(self, line):
        self.line = line


class Blocked(YardStateError):
    """A step or a round is not possible."""

    def __init__(self, index):
        self.index = index


class Conflicting(YardStateError):
    """The pins have no completion."""

    def __init__(self, conflict):
        self.conflict = conflict


class OutOfReach(YardStateError):
    """A drag would move a wagon beyond its wall."""

    def __init__(self, wagon):
        self.wagon = wagon


class NotConnected(YardStateError):
    """No path of couplings leads from one wagon to the other one."""

    def __init__(self, wagons):
        self.wagons = wagons


class NotHeld(YardStateError):
    """The forces do not hold the arrangement."""

    def __init__(self, part):
        self.part = part


class NothingToUndo(YardStateError):
    """The history has fewer calls than are to be undone."""

    def __init__(self, count):
        self.count = count
