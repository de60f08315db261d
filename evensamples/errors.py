"""The errors of the package.

Their messages do not show the values: Python refuses to write out an integer with very many digits.
"""


class SampleError(ValueError):
    """What all errors of the package have in common."""


class BadProgram(SampleError):
    """The value is not a program."""

    def __init__(self, value):
        SampleError.__init__(self, "the value is not a program")
        self.value = value


class NoTick(SampleError):
    """The value is not the number of a tick."""

    def __init__(self, value):
        SampleError.__init__(self, "there is no tick with this number")
        self.value = value


class NoLine(SampleError):
    """The value is not a line of the program."""

    def __init__(self, value):
        SampleError.__init__(self, "the program has no such line")
        self.value = value


class TooLong(SampleError):
    """The program has too many ticks, size of them."""

    def __init__(self, size):
        SampleError.__init__(self, "the program has too many ticks")
        self.size = size


class NotFlat(SampleError):
    """A loop of the program contains a loop."""

    def __init__(self):
        SampleError.__init__(self)


class TooLarge(SampleError):
    """The greatest common divisor of period and length is too large."""

    def __init__(self, divisor):
        SampleError.__init__(self, "the common divisor of period and length is too large")
        self.divisor = divisor


class OtherLength(SampleError):
    """The second program has another length, size, than the first one."""

    def __init__(self, size):
        SampleError.__init__(self, "the programs differ in length")
        self.size = size


class BadIndex(SampleError):
    """The value is not an index of an item."""

    def __init__(self, value):
        SampleError.__init__(self, "there is no item at this index")
        self.value = value


class BadItem(SampleError):
    """The value is not an item, or the program cannot take it."""

    def __init__(self, value):
        SampleError.__init__(self, "the program cannot take this item")
        self.value = value


class LastItem(SampleError):
    """The only item of a program cannot be removed."""

    def __init__(self):
        SampleError.__init__(self)


class NothingToUndo(SampleError):
    """There is no change that could be taken back."""

    def __init__(self):
        SampleError.__init__(self)


class BadText(SampleError):
    """The text is not that of a program, as its character at the position shows."""

    def __init__(self, position):
        SampleError.__init__(self, "the text is not that of a program")
        self.position = position


class BadCommand(SampleError):
    """The line is not a command of a desk."""

    def __init__(self, line):
        SampleError.__init__(self, "the line is not a command")
        self.line = line
