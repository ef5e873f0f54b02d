"""The errors of the package. Each keeps what it was created with, as it is."""


class InputError(ValueError):
    """A value that was passed is not what is asked for."""


class StateError(LookupError):
    """Something is missing, or stands in the way."""


class SizeError(ArithmeticError):
    """There is more than the package looks at or keeps."""


class InvalidLines(InputError):
    """What was passed is not a number of lines."""

    def __init__(self, value):
        self.value = value


class InvalidPolicy(InputError):
    """What was passed is not a policy."""

    def __init__(self, value):
        self.value = value


class InvalidDevice(InputError):
    """What was passed is not a device."""

    def __init__(self, value):
        self.value = value


class InvalidDevices(InputError):
    """What was passed is not a tuple of devices."""

    def __init__(self, index):
        self.index = index


class InvalidName(InputError):
    """What was passed is not a name."""

    def __init__(self, value):
        self.value = value


class InvalidHistory(InputError):
    """What was passed is not a history."""

    def __init__(self, index):
        self.index = index


class InvalidSteps(InputError):
    """What was passed is not a tuple of steps."""

    def __init__(self, index):
        self.index = index


class InvalidSituation(InputError):
    """What was passed is not a situation."""

    def __init__(self, value):
        self.value = value


class InvalidStep(InputError):
    """What was passed is not a step from the situation."""

    def __init__(self, value):
        self.value = value


class InvalidRatio(InputError):
    """What was passed is not a ratio."""

    def __init__(self, value):
        self.value = value


class InvalidExcess(InputError):
    """What was passed is not an excess."""

    def __init__(self, value):
        self.value = value


class InvalidCount(InputError):
    """What was passed is not a number of names or of places."""

    def __init__(self, value):
        self.value = value


class InvalidTimes(InputError):
    """What was passed is not a number of times."""

    def __init__(self, value):
        self.value = value


class InvalidProgram(InputError):
    """What was passed is not a program."""

    def __init__(self, value):
        self.value = value


class InvalidPlace(InputError):
    """What was passed is not a place of the program."""

    def __init__(self, value):
        self.value = value


class InvalidLog(InputError):
    """What was passed is not a log."""

    def __init__(self, index):
        self.index = index


class InvalidText(InputError):
    """What was passed is not a text of what is read."""

    def __init__(self, line):
        self.line = line


class InvalidEdit(InputError):
    """What was passed is not a tuple of edits."""

    def __init__(self, index):
        self.index = index


class InvalidCommand(InputError):
    """What was passed is not a command."""

    def __init__(self, command):
        self.command = command


class InvalidFunction(InputError):
    """What was passed is not a function."""

    def __init__(self, value):
        self.value = value


class UnknownName(StateError):
    """Nothing has this name."""

    def __init__(self, name):
        self.name = name


class NameTaken(StateError):
    """Another device has this name."""

    def __init__(self, name):
        self.name = name


class Limited(StateError):
    """A limit between these names stands in the way."""

    def __init__(self, name, other):
        self.name = name
        self.other = other


class BrokenLimit(StateError):
    """A limit between these names does not hold."""

    def __init__(self, name, other):
        self.name = name
        self.other = other


class UnknownLimit(StateError):
    """There is no limit between these names."""

    def __init__(self, name, other):
        self.name = name
        self.other = other


class NothingToUndo(StateError):
    """There are fewer edits than are to be taken back."""


class Busy(StateError):
    """Several edits are being done."""


class TooManySituations(SizeError):
    """There are more situations, or moments, than are looked at."""

    def __init__(self, limit):
        self.limit = limit


class TooManyStates(SizeError):
    """There are more states than a policy may have."""

    def __init__(self, limit):
        self.limit = limit


class TooManyRequests(SizeError):
    """There are more requests than are looked at."""

    def __init__(self, limit):
        self.limit = limit


class TooManyDevices(SizeError):
    """There are as many devices as a rack may have."""

    def __init__(self, limit):
        self.limit = limit


class TooManyEdits(SizeError):
    """There are as many edits as a log may have."""

    def __init__(self, limit):
        self.limit = limit
