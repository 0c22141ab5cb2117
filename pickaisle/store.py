"""Stores, which tell the length of a least round at once as picks are put in and taken out."""

from pickaisle.errors import InvalidPlace
from pickaisle.kinds import DONE, NONE
from pickaisle.tables import product, table
from pickaisle.tasks import Task, check_task


class Store:
    """A house, two ends and picks, with the products of the tables of its aisles in a tree."""

    def __init__(self, house, start, end):
        self.tables_made = 0
        self.products_made = 0
        self._house = house
        self._task = Task(start, end, [])
        self._parts = {}
        check_task(house, self._task)
        self._make(0, house.aisles - 1, list(range(house.aisles)))

    def put(self, place):
        """Put a pick in."""
        if not self._house.is_place(place):
            raise InvalidPlace(place)
        self._task = self._task.with_pick(place)
        self._make(0, self._house.aisles - 1, [place[0]])

    def take(self, place):
        """Take a pick out."""
        self._task = self._task.without_pick(place)
        self._make(0, self._house.aisles - 1, [place[0]])

    def task_now(self):
        """Return the task with the ends and the picks."""
        return self._task

    def length(self):
        """Return the length of a least round, or None if there is no round."""
        return self._parts[(0, self._house.aisles - 1)].get((NONE, DONE))

    def twin(self):
        """Return a store with the same house, ends and picks, which has made nothing yet."""
        return Twin(self._house, self._task, self._parts)

    def _make(self, first, last, changed):
        """Make anew the part of the tree from the first to the last aisle, as far as it has aisles that changed."""
        if not any(first <= aisle <= last for aisle in changed):
            return
        if first == last:
            self._parts[(first, last)] = table(self._house, self._task, first)
            self.tables_made += 1
            return
        middle = (first + last) // 2
        self._make(first, middle, changed)
        self._make(middle + 1, last, changed)
        self._parts[(first, last)] = product(self._parts[(first, middle)], self._parts[(middle + 1, last)])
        self.products_made += 1


class Twin(Store):
    """A store that begins with the parts of another one, so that it makes none of them."""

    def __init__(self, house, task, parts):
        self.tables_made = 0
        self.products_made = 0
        self._house = house
        self._task = task
        # The tables and products in it are never changed, only replaced.
        self._parts = {stretch: parts[stretch] for stretch in parts}
