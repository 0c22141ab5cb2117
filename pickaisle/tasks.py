"""Tasks: where a walk starts, where it ends, and what it has to pass."""

from pickaisle.errors import InvalidPlace, InvalidTask, PickTaken, TooLarge, UnknownPick

MOST_PICKS = 60


class Task:
    """A start, an end and picks, made without a house; it does not change."""

    def __init__(self, start, end, picks):
        if len(picks) > MOST_PICKS:
            raise InvalidTask("a task has at most 60 picks")
        if len(set(picks)) < len(picks):
            raise InvalidTask("two picks are the same")
        self.start = start
        self.end = end
        self._picks = sorted(picks)

    @property
    def picks(self):
        """The picks, ascending."""
        return list(self._picks)

    def marks(self):
        """Return the picks, the start and the end, each once, ascending."""
        return sorted(set([self.start, self.end] + self._picks))

    def has_pick(self, place):
        """Tell whether the place is a pick."""
        return place in self._picks

    def with_pick(self, place):
        """Return the task with one pick more."""
        if self.has_pick(place):
            raise PickTaken(place)
        if len(self._picks) >= MOST_PICKS:
            raise TooLarge("there are 60 picks")
        return Task(self.start, self.end, self._picks + [place])

    def without_pick(self, place):
        """Return the task without the pick."""
        if not self.has_pick(place):
            raise UnknownPick(place)
        return Task(self.start, self.end, [pick for pick in self._picks if pick != place])

    def with_ends(self, start, end):
        """Return the task with these ends."""
        return Task(start, end, self._picks)

    def turned(self):
        """Return the task with start and end exchanged."""
        return Task(self.end, self.start, self._picks)

    def same_as(self, other):
        """Tell whether the other task has the same start, end and picks."""
        return (self.start, self.end, self.picks) == (other.start, other.end, other.picks)


def check_task(house, task):
    """Raise InvalidPlace for the first place of the task that does not fit the house."""
    for place in [task.start, task.end]:
        if not house.is_cross(place):
            raise InvalidPlace(place)
    for place in task.picks:
        if not house.is_place(place):
            raise InvalidPlace(place)


def joined_tasks(first, second):
    """Return the task with the ends of the first one and all picks of both."""
    picks = sorted(set(first.picks + second.picks))
    if len(picks) > MOST_PICKS:
        raise TooLarge("both together have more than 60 picks")
    return Task(first.start, first.end, picks)
