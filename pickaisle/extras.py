"""What picks cost: by how much the length of a least round grows with a pick, or becomes less without it."""

from pickaisle.errors import InvalidPlace, Unreachable
from pickaisle.kinds import DONE
from pickaisle.layers import all_layers, heights_of, layers_of, lengths_past, lengths_to_done
from pickaisle.pieces import best_between
from pickaisle.profiles import Profiles
from pickaisle.tables import least_length, lengths_from
from pickaisle.tasks import check_task
from pickaisle.ways import cut_off


def lengths_behind(house, task):
    """Return a list of dicts: for each kind that lengths_from tells there, the least sum of the steps to "done"."""
    check_task(house, task)
    layers = all_layers(house, task, best_between)
    return lengths_to_done(layers)[::len(layers) // house.aisles]


def extra(house, task, place):
    """Return the extra of the place, or None if no walk reaches it from the start."""
    check_task(house, task)
    if not house.is_place(place):
        raise InvalidPlace(place)
    return _extras_at(house, task, [place])[place]


def extras_of(house, task):
    """Return a dict from all places of the house to their extras."""
    return _extras_at(house, task, house.places())


def free_places(house, task):
    """Return the list of the free places, ascending."""
    return [place for place, number in extras_of(house, task).items() if number == 0]


def saving(house, task, pick):
    """Return the saving of the pick."""
    check_task(house, task)
    less = task.without_pick(pick)
    return _checked(house, task, least_length(house, task)) - least_length(house, less)


def _checked(house, task, length):
    """The length of a least round of the task; Unreachable is raised for None."""
    if length is None:
        raise Unreachable(cut_off(house, task))
    return length


def _extras_at(house, task, places):
    """A dict from these places to their extras."""
    ahead, behind = lengths_from(house, task), lengths_behind(house, task)
    least = _checked(house, task, ahead[-1].get(DONE))
    profiles = Profiles()
    extras = {}
    for aisle, height in places:
        # The picks of other aisles do not matter here, so that no task with a pick more is needed.
        heights = heights_of(task, aisle)
        if height not in heights:
            heights = sorted(heights + [height])
        layers = layers_of(house, task, aisle, heights, profiles, best_between)
        length = _length_by_way_of(layers, ahead[aisle], behind[aisle + 1])
        extras[(aisle, height)] = None if length is None else length - least
    return extras


def _length_by_way_of(layers, ahead, behind):
    """The least length of a row of steps, from the lengths ahead of and behind an aisle with these layers, or None.

    What lies ahead and behind does not hang on the picks of the aisle. A pick more leads to no other kinds behind it,
    except to "done" from "none", and from there the aisle of the start, which then lies behind, cannot be passed.
    """
    lengths = lengths_past(layers, ahead)
    return min([length + behind[kind] for kind, length in lengths.items() if kind in behind], default=None)
