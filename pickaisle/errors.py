"""The errors of the program, each under PickError and none under another one."""


class PickError(ValueError):
    """The base class of all errors that the program raises."""


class InvalidHouse(PickError):
    """A house breaks a rule."""


class InvalidTask(PickError):
    """A task breaks a rule, or is not of the kind that is asked for."""


class InvalidLink(PickError):
    """A link is none of the house, or is closed or not closed as it must not be."""


class InvalidPlan(PickError):
    """A dict is no plan of the task."""


class InvalidPaper(PickError):
    """A paper is not right."""


class TooLarge(PickError):
    """There would be more of something than is allowed."""


class NothingToUndo(PickError):
    """No change is left that could be taken back."""


class NothingToRedo(PickError):
    """No change is left that could be restored."""


class InvalidPlace(PickError):
    """A place is none of the house, or does not fit where it is used."""

    def __init__(self, place):
        self.place = place


class PickTaken(PickError):
    """A place is a pick already."""

    def __init__(self, place):
        self.place = place


class UnknownPick(PickError):
    """A place is no pick."""

    def __init__(self, place):
        self.place = place


class Unreachable(PickError):
    """No walk from the start comes to a place."""

    def __init__(self, place):
        self.place = place


class InvalidWalk(PickError):
    """A list of places is no walk; the number is that of the first wrong one."""

    def __init__(self, number):
        self.number = number


class InvalidNotation(PickError):
    """A text is no written form; the line is the first wrong one, counted from 1."""

    def __init__(self, line):
        self.line = line


class NameTaken(PickError):
    """A name is in use already."""

    def __init__(self, name):
        self.name = name


class UnknownName(PickError):
    """Nothing has this name."""

    def __init__(self, name):
        self.name = name
