"""Junctions: the cross places of an aisle, and what steps through it lead to behind it."""

from pickaisle.kinds import DONE, NONE, is_odd, kind_from


class Junction:
    """The cross places of an aisle; it keeps what it has found, as steps differ by the lengths of their options."""

    def __init__(self, house, task, aisle):
        crosses = house.crosses()
        marks = task.marks()
        self._numbers = list(range(len(crosses)))
        self._marked = [(aisle, height) in marks for height in crosses]
        self._has_marks = any(place[0] == aisle for place in marks)
        self._odd = [is_odd(task, (aisle, height)) for height in crosses]
        self._open = [_is_open(house, ("over", aisle, height)) for height in crosses]
        self._width = (house.gaps + [0])[aisle]
        self._found = {}

    def leads(self, kind, ends):
        """Return the tuples (kind behind, length behind, numbers behind) of the steps from a kind.

        The ends are a tuple of a tuple (low, high, joins) for the option of each stretch.
        """
        if (kind, ends) not in self._found:
            self._found[(kind, ends)] = self._find(kind, ends)
        return list(self._found[(kind, ends)])

    def _find(self, kind, ends):
        """What leads returns, found anew."""
        if kind == DONE:
            return self._find_without_links(ends)
        ahead = [(0, 0) for _ in self._numbers] if kind == NONE else kind
        sums = self._sums(ahead, ends)
        labels = self._labels(ahead, ends)
        found = []
        for overs in self._all_overs(sums):
            behind = self._behind(kind, sums, labels, overs)
            if behind is not None:
                found.append((behind, self._width * sum(overs), overs))
        return found

    def _find_without_links(self, ends):
        """What leads on from the kind "done"."""
        if self._has_marks or any(low + high > 0 for low, high, _ in ends):
            return []
        return [(DONE, 0, tuple([0 for _ in self._numbers]))]

    def _sums(self, ahead, ends):
        """For each cross place the sum of the numbers of its links ahead, up and down."""
        sums = [number for number, _ in ahead]
        for stretch, (low, high, _) in enumerate(ends):
            sums[stretch] += low
            sums[stretch + 1] += high
        return sums

    def _labels(self, ahead, ends):
        """A label for each cross place, the same for those that hang together."""
        groups = [group for _, group in ahead]
        labels = [groups.index(group) if group > 0 else number for number, group in enumerate(groups)]
        for stretch, (_, _, joins) in enumerate(ends):
            if joins:
                one, other = labels[stretch], labels[stretch + 1]
                labels = [one if label == other else label for label in labels]
        return labels

    def _all_overs(self, sums):
        """All tuples of numbers behind that make the sums at the cross places right, ascending."""
        rows = [()]
        for number in self._numbers:
            if (sums[number] % 2 == 1) != self._odd[number]:
                choices = [1] if self._open[number] else []
            else:
                choices = [0, 2] if self._open[number] else [0]
            rows = [row + (choice,) for row in rows for choice in choices]
        return rows

    def _behind(self, kind, sums, labels, overs):
        """The kind behind the aisle, or None if there is no step with these numbers behind."""
        lots = {labels[number]: False for number in self._numbers if self._marked[number] or sums[number] > 0}
        for number in self._numbers:
            if overs[number] > 0:
                lots[labels[number]] = True
        if any(overs):
            return kind_from(overs, labels) if all(lots[label] for label in lots) else None
        if kind == NONE and not self._has_marks:
            return None if lots else NONE
        return DONE if len(lots) == 1 else None


def _is_open(house, link):
    """Tell whether the link is one of the house that is not closed."""
    return house.is_link(link) and not house.is_closed(link)
