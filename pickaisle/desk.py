"""The desk: a house and a task that are changed step by step, with undo, redo and trials."""

from pickaisle.errors import InvalidPlace, NothingToRedo, NothingToUndo
from pickaisle.tables import least_length
from pickaisle.tasks import check_task


class Desk:
    """A house and a task with all that can be undone and restored."""

    def __init__(self, house, task):
        check_task(house, task)
        # The list is never changed but replaced, so that a trial can keep it as it is.
        self.states = [(house, task)]
        self.at = 0
        self._answers = {}

    @property
    def found(self):
        """The number of answers that were found so far."""
        return len(self._answers)

    def put_pick(self, place):
        """Make the place a pick."""
        if not self.house_now().is_place(place):
            raise InvalidPlace(place)
        self._change(self.house_now(), self.task_now().with_pick(place))

    def take_pick(self, place):
        """Make the place a pick no more."""
        self._change(self.house_now(), self.task_now().without_pick(place))

    def close_link(self, link):
        """Close the link."""
        self._change(self.house_now().with_closed(link), self.task_now())

    def free_link(self, link):
        """Make the link closed no more."""
        self._change(self.house_now().without_closed(link), self.task_now())

    def set_ends(self, start, end):
        """Set the start and the end."""
        for place in [start, end]:
            if not self.house_now().is_cross(place):
                raise InvalidPlace(place)
        self._change(self.house_now(), self.task_now().with_ends(start, end))

    def house_now(self):
        """Return the house."""
        house, _ = self.states[self.at]
        return house

    def task_now(self):
        """Return the task."""
        _, task = self.states[self.at]
        return task

    def answer(self):
        """Return the length of a least round, or None if there is no round."""
        key = _key_of(self.house_now(), self.task_now())
        if key not in self._answers:
            self._answers[key] = least_length(self.house_now(), self.task_now())
        return self._answers[key]

    def undo(self):
        """Take back the last change that has not been taken back."""
        if self.at == 0:
            raise NothingToUndo("no change is left that could be taken back")
        self.at -= 1

    def redo(self):
        """Restore the change that was taken back last."""
        if self.at + 1 == len(self.states):
            raise NothingToRedo("no change is left that could be restored")
        self.at += 1

    def trial(self):
        """Return an object for a with statement, whose changes are taken back if an error leaves it."""
        return Trial(self)

    def change_all(self, deeds):
        """Make all changes of the list, or none if one of them raises."""
        with self.trial():
            for deed in deeds:
                self._make(deed)

    def _make(self, deed):
        """Make the change that the tuple tells."""
        match deed:
            case ("put", place):
                self.put_pick(place)
            case ("take", place):
                self.take_pick(place)
            case ("close", link):
                self.close_link(link)
            case ("free", link):
                self.free_link(link)
            case ("ends", start, end):
                self.set_ends(start, end)
            case ("all", deeds):
                self.change_all(deeds)

    def _change(self, house, task):
        """Let the house and the task come behind the state of now, instead of all that could have been restored."""
        self.states = self.states[:self.at + 1] + [(house, task)]
        self.at += 1


class Trial:
    """A block of changes of a desk that is taken back if an error leaves it."""

    def __init__(self, desk):
        self.desk = desk
        self.states = []
        self.at = 0

    def __enter__(self):
        self.states = self.desk.states
        self.at = self.desk.at
        return self.desk

    def __exit__(self, kind, value, trace):
        desk = self.desk
        if kind is not None:
            desk.states = self.states
            desk.at = self.at


def _key_of(house, task):
    """A key that is the same for houses and tasks that count as one."""
    closed, picks = tuple(house.closed), tuple(task.picks)
    return (tuple(house.lengths), tuple(house.gaps), closed, task.start, task.end, picks)
