"""The errors of Sourceback: each is directly below BackError and keeps its arguments."""


class BackError(ValueError):
    """Whatever Sourceback refuses."""


class BadFiles(BackError):
    """A value is no tuple of files that a project can have."""

    def __init__(self, value):
        self.value = value


class SourceError(BackError):
    """The sources break a rule: a word for it, the file, and the index of the token."""

    def __init__(self, word, file, index):
        self.word = word
        self.file = file
        self.index = index


class NoFile(BackError):
    """A value names no file of the project."""

    def __init__(self, value):
        self.value = value


class NoList(BackError):
    """There is no such list in such a file."""

    def __init__(self, file, name):
        self.file = file
        self.name = name


class NoPlace(BackError):
    """A value is no place of the project."""

    def __init__(self, value):
        self.value = value


class NoSpot(BackError):
    """A value is no spot of the project."""

    def __init__(self, value):
        self.value = value


class NoThing(BackError):
    """A value is no thing of the project."""

    def __init__(self, value):
        self.value = value


class BadEdit(BackError):
    """A value is no edit by its form."""

    def __init__(self, value):
        self.value = value


class StepError(BackError):
    """A step of an edit cannot be made: its index, and a word that tells why."""

    def __init__(self, index, word):
        self.index = index
        self.word = word


class BadPlan(BackError):
    """A value is no plan for the project."""

    def __init__(self, value):
        self.value = value


class TooLarge(BackError):
    """There is more to search than a bound lets: the word of the bound."""

    def __init__(self, word):
        self.word = word


class Refused(BackError):
    """An edit cannot be led back: a word for it, and the paper that shows it."""

    def __init__(self, word, paper):
        self.word = word
        self.paper = paper


class Clash(BackError):
    """Two changes cannot both be made."""

    def __init__(self, one, other):
        self.one = one
        self.other = other


class NoHistory(BackError):
    """A value is no history."""

    def __init__(self, value):
        self.value = value


class Unrelated(BackError):
    """Two histories do not begin with the same state."""


class NotMergeable(BackError):
    """A state of a history came by write: its number."""

    def __init__(self, number):
        self.number = number


class NothingToUndo(BackError):
    """There is no state ahead of the present one."""


class NothingToRedo(BackError):
    """There is no state behind the present one."""


class NoMark(BackError):
    """A value is no mark."""

    def __init__(self, value):
        self.value = value


class NoState(BackError):
    """A value is the number of no state."""

    def __init__(self, value):
        self.value = value


class BadText(BackError):
    """A value is no text of the form that is read."""

    def __init__(self, value):
        self.value = value


class BadLine(BackError):
    """A value is no line that a desk takes."""

    def __init__(self, line):
        self.line = line


class NotOpen(BackError):
    """The desk has not been told to begin."""
