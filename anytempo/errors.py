"""The exceptions of the package: three bases, and below each of them one class for each kind of failure.

The messages are fixed texts, because a field may be a value of any kind and of any size; what was wrong stands
in the field, which is the very object that was passed.
"""


class CueError(ValueError):
    """An argument is invalid."""


class MissingError(KeyError):
    """A name or a number is unknown."""


class StateError(LookupError):
    """An operation is not possible as things are."""


class InvalidInteger(CueError):
    """Not an integer, or not one that may stand here."""

    def __init__(self, value):
        super().__init__("not an integer that may stand here")
        self.value = value


class InvalidAmount(CueError):
    """Neither an Amount object nor an integer, or not one that may stand here."""

    def __init__(self, value):
        super().__init__("not an amount that may stand here")
        self.value = value


class InvalidPart(CueError):
    """A list of parts that is no list, or lacks a part."""

    def __init__(self, value):
        super().__init__("not a list of the parts that are needed")
        self.value = value


class InvalidName(CueError):
    """Not a name."""

    def __init__(self, value):
        super().__init__("not a name")
        self.value = value


class InvalidUnit(CueError):
    """Neither "beats" nor "seconds"."""

    def __init__(self, value):
        super().__init__("not a unit")
        self.value = value


class InvalidWord(CueError):
    """None of "before", "same" and "after"."""

    def __init__(self, value):
        super().__init__("not a word")
        self.value = value


class InvalidCue(CueError):
    """Not a tuple that tells a cue."""

    def __init__(self, value):
        super().__init__("not a tuple that tells a cue")
        self.value = value


class Duplicate(CueError):
    """A name that is taken already."""

    def __init__(self, label):
        super().__init__("the name is taken already")
        self.label = label


class InvalidSheet(CueError):
    """Not a sheet."""

    def __init__(self, value):
        super().__init__("not a sheet")
        self.value = value


class InvalidMap(CueError):
    """Not a tempo map."""

    def __init__(self, value):
        super().__init__("not a tempo map")
        self.value = value


class InvalidPoint(CueError):
    """Not a tuple of a beat and a second."""

    def __init__(self, value):
        super().__init__("not a tuple of a beat and a second")
        self.value = value


class Falling(CueError):
    """A point of a tempo map that does not rise from the point before."""

    def __init__(self, index):
        super().__init__("the point does not rise from the one before")
        self.index = index


class InvalidFact(CueError):
    """Not a fact."""

    def __init__(self, value):
        super().__init__("not a fact")
        self.value = value


class InvalidOrder(CueError):
    """Not an order of the sheet."""

    def __init__(self, value):
        super().__init__("not an order of the sheet")
        self.value = value


class InvalidClip(CueError):
    """Not a tuple that tells a clip."""

    def __init__(self, value):
        super().__init__("not a tuple that tells a clip")
        self.value = value


class Turned(CueError):
    """A clip whose beginning does not surely come before its end."""

    def __init__(self, label):
        super().__init__("the clip's beginning does not surely come before its end")
        self.label = label


class InvalidString(CueError):
    """Not a string, or not one that represents anything."""

    def __init__(self, value):
        super().__init__("not a string of the form that is needed")
        self.value = value


class InvalidLine(CueError):
    """A line of a text that does not have the form."""

    def __init__(self, index):
        super().__init__("the line does not have the form")
        self.index = index


class InvalidCommand(CueError):
    """Not a command."""

    def __init__(self, value):
        super().__init__("not a command")
        self.value = value


class UnknownCue(MissingError):
    """Not the name of a cue."""

    def __init__(self, label):
        super().__init__("there is no such cue")
        self.label = label


class UnknownFact(MissingError):
    """Not the index of a fact."""

    def __init__(self, index):
        super().__init__("there is no such fact")
        self.index = index


class TooMany(StateError):
    """More than the number that is allowed."""

    def __init__(self, most):
        super().__init__("there are more than are allowed")
        self.most = most


class NotPossible(StateError):
    """Facts that cannot hold together."""

    def __init__(self, indices):
        super().__init__("the facts cannot hold together")
        self.indices = indices


class HasChildren(StateError):
    """A cue that is the parent of others."""

    def __init__(self, label):
        super().__init__("the cue is the parent of others")
        self.label = label


class NoShift(StateError):
    """A cue that cannot be told by one shift."""

    def __init__(self, label):
        super().__init__("the cue cannot be told by one shift")
        self.label = label


class NothingToUndo(StateError):
    """There is no change to take back, or to perform again."""

    def __init__(self):
        super().__init__("there is no change to take back or to perform again")
