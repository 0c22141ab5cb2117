"""Rounds: what is a walk and a round, and the nearest round."""

from pickaisle.errors import InvalidWalk
from pickaisle.tasks import check_task
from pickaisle.ways import check_round, levels, way_down


def walk_fault(house, walk):
    """Return the number of the first place that cannot stand where it stands, or None."""
    if not walk or not house.is_place(walk[0]):
        return 0
    for number in range(1, len(walk)):
        if house.link_between(walk[number - 1], walk[number]) is None:
            return number
    return None


def links_of_walk(house, walk):
    """Return the list of the links along which the walk goes, one after another."""
    fault = walk_fault(house, walk)
    if fault is not None:
        raise InvalidWalk(fault)
    return [house.link_between(one, other) for one, other in zip(walk, walk[1:])]


def walk_length(house, walk):
    """Return the length of the walk."""
    return sum([house.length_of(link) for link in links_of_walk(house, walk)])


def missed(task, walk):
    """Return the list of the picks that are not in the list of places, ascending."""
    passed = set(walk)
    return [pick for pick in task.picks if pick not in passed]


def is_round(house, task, walk):
    """Tell whether the list of places is a round of the task in the house."""
    check_task(house, task)
    if walk_fault(house, walk) is not None:
        return False
    return walk[0] == task.start and walk[-1] == task.end and not missed(task, walk)


def turned_walk(walk):
    """Return the walk turned round."""
    return walk[::-1]


def joined_walks(first, second):
    """Return the two walks joined where the first one ends and the second one starts."""
    if first[-1] != second[0]:
        raise InvalidWalk(len(first))
    return first + second[1:]


def nearest_round(house, task):
    """Return the round that always goes to the nearest pick that is left, and at last to the end."""
    check_round(house, task)
    walk = [task.start]
    numbers = levels(house, task.start)
    left = missed(task, walk)
    while left:
        _, pick = min([(numbers[place], place) for place in left])
        numbers = levels(house, pick)
        walk = joined_walks(walk, way_down(house, walk[-1], numbers))
        left = missed(task, walk)
    return joined_walks(walk, way_down(house, walk[-1], levels(house, task.end)))
