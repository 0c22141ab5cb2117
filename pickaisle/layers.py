"""Layers: the steps through an aisle in parts, one for coming in, one for each stretch and one for the gap behind.

A layer leads from states ahead of it to states behind it: kinds at the gaps, profiles inside the aisle.
"""

from pickaisle.kinds import DONE, NONE, is_odd
from pickaisle.pieces import ends_of_stretch
from pickaisle.profiles import SOME, Profiles, leaving


class EntryLayer:
    """Leads from the kinds ahead of an aisle to profiles; there is nothing to choose, and no link to walk."""

    def __init__(self, house, task, aisle, heights, profiles):
        marks = heights + [height for number, height in [task.start, task.end] if number == aisle]
        crosses = house.crosses()
        self._profiles = profiles
        self._has_marks = len(marks) > 0
        self._marked = [height in marks for height in crosses]
        self._odds = [1 if is_odd(task, (aisle, height)) else 0 for height in crosses]

    def leads(self, kind):
        """Return the list of the tuples (state behind, length, choice) for this state ahead."""
        if kind == DONE and self._has_marks:
            return []
        word = kind if kind in (NONE, DONE) and not self._has_marks else SOME
        rows = [(0, 0) for _ in self._odds] if kind in (NONE, DONE) else kind
        odds = [(number + odd) % 2 for (number, _), odd in zip(rows, self._odds)]
        groups = [group for _, group in rows]
        lots = []
        for place, group in enumerate(groups):
            lots.append(groups.index(group) + 1 if group > 0 else place + 1 if self._marked[place] else 0)
        return [(self._profiles.profile(word, odds, lots), 0, ())]

    def numbers(self, choice):
        """Return the tuples of each link of the layer and its number by the choice, here none."""
        return list(choice)


class StretchLayer:
    """Leads through a stretch; a choice is an option."""

    def __init__(self, house, aisle, stretch, options, profiles):
        self._profiles = profiles
        self._aisle = aisle
        self._ends = ends_of_stretch(house, stretch)
        self._options = [(option, option[0], (stretch,) + option[1:4]) for option in options]

    def leads(self, profile):
        """Return the list of the tuples (state behind, length, choice) for this state ahead."""
        found = []
        for option, length, part in self._options:
            behind = self._profiles.after(profile, part)
            if behind is not None:
                found.append((behind, length, option))
        return found

    def numbers(self, choice):
        """Return the tuples of each link of the layer, closed or not, and its number by the choice."""
        _, number, _, joins, left_out = choice
        low, high = self._ends
        if joins:
            return [(("up", self._aisle, height), number) for height in range(low, high)]
        lower, upper = left_out
        return [(("up", self._aisle, height), 0 if lower <= height < upper else 2) for height in range(low, high)]


class GapLayer:
    """Leads over the gap behind an aisle, from profiles to kinds; a choice is a tuple of the numbers behind."""

    def __init__(self, house, aisle):
        links = [("over", aisle, height) for height in house.crosses()]
        # Behind the last aisle there are no links, so that none of them is open.
        self._are_open = tuple([house.is_link(link) and not house.is_closed(link) for link in links])
        self._links = [link for link in links if house.is_link(link)]
        self._width = (house.gaps + [0])[aisle]

    def leads(self, profile):
        """Return the list of the tuples (state behind, length, choice) for this state ahead."""
        return [(kind, many * self._width, overs) for kind, many, overs in leaving(profile, self._are_open)]

    def numbers(self, choice):
        """Return the tuples of each link of the layer, closed or not, and its number by the choice."""
        return list(zip(self._links, choice))


def layers_of(house, task, aisle, heights, profiles, find_options):
    """Return the list of the layers of an aisle for the ends of the task and picks of the aisle at these heights.

    The heights ascend. The function tells the options of a stretch, from the heights of the picks inside.
    """
    layers = [EntryLayer(house, task, aisle, heights, profiles)]
    for stretch, _ in enumerate(house.lengths):
        low, high = ends_of_stretch(house, stretch)
        options = find_options(house, aisle, stretch, [height for height in heights if low < height < high])
        layers.append(StretchLayer(house, aisle, stretch, options, profiles))
    return layers + [GapLayer(house, aisle)]


def heights_of(task, aisle):
    """Return the list of the heights of the picks in the aisle, ascending."""
    return [height for number, height in task.picks if number == aisle]


def all_layers(house, task, find_options):
    """Return the list of the layers of all aisles, one after another."""
    profiles = Profiles()
    layers = []
    for aisle in range(house.aisles):
        layers.extend(layers_of(house, task, aisle, heights_of(task, aisle), profiles, find_options))
    return layers


def lengths_through(layer, lengths):
    """Return the least lengths of the states behind the layer, from those of the states ahead of it."""
    found = {}
    for state, length in lengths.items():
        for behind, more, _ in layer.leads(state):
            whole = length + more
            if behind not in found or whole < found[behind]:
                found[behind] = whole
    return found


def lengths_past(layers, lengths):
    """Return the least lengths of the states behind all layers, from those of the states ahead of the first one."""
    for layer in layers:
        lengths = lengths_through(layer, lengths)
    return lengths


def lengths_back(layer, states, lengths):
    """Return the least lengths that lie behind the states ahead of the layer, from those behind the layer."""
    found = {}
    for state in states:
        wholes = [more + lengths[behind] for behind, more, _ in layer.leads(state) if behind in lengths]
        if wholes:
            found[state] = min(wholes)
    return found


def lengths_to_done(layers):
    """Return a list of dicts, one more than the layers: for each state the least length from it to "done".

    Only states to which a row of leads comes from "none", and from which one leads to "done", stand there.
    """
    reached = [{NONE: 0}]
    for layer in layers:
        reached.append(lengths_through(layer, reached[-1]))
    dicts = [{DONE: 0} if DONE in reached[-1] else {}]
    for number in reversed(range(len(layers))):
        dicts.append(lengths_back(layers[number], list(reached[number]), dicts[-1]))
    return dicts[::-1]
