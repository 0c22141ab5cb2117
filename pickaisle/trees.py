"""Trees: pairs of marks by which all marks hang together, and the round along them."""

from pickaisle.rounds import joined_walks, walk_length
from pickaisle.ways import check_round, levels, way_down


def is_tree(task, tree):
    """Tell whether the list of pairs is a tree of the task."""
    marks = task.marks()
    if len(tree) != len(marks) - 1 or tree != sorted(tree):
        return False
    groups = {mark: mark for mark in marks}
    for one, other in tree:
        if one not in groups or other not in groups:
            return False
        if one > other or groups[one] == groups[other]:
            return False
        groups = _with_joined(groups, one, other)
    return True


def least_tree(house, task):
    """Return the least tree that takes the nearest pairs first."""
    return _least_pairs(_levels_of_marks(house, task))


def tree_length(house, task, tree):
    """Return the length of a tree of the task."""
    return _length_of(_levels_of_marks(house, task), tree)


def is_least_tree(house, task, tree):
    """Tell whether the list of pairs is a least tree of the task."""
    numbers = _levels_of_marks(house, task)
    if not is_tree(task, tree):
        return False
    return _length_of(numbers, tree) == _length_of(numbers, _least_pairs(numbers))


def tree_round(house, task):
    """Return the round along the least tree."""
    numbers = _levels_of_marks(house, task)
    return _round_along(house, task, numbers, _least_pairs(numbers))


def tree_bounds(house, task):
    """Return the tuple of the lengths of a least tree and of the round along it."""
    numbers = _levels_of_marks(house, task)
    tree = _least_pairs(numbers)
    return (_length_of(numbers, tree), walk_length(house, _round_along(house, task, numbers, tree)))


def _levels_of_marks(house, task):
    """The levels from each mark, if the task has a round."""
    check_round(house, task)
    return {mark: levels(house, mark) for mark in task.marks()}


def _length_of(numbers, tree):
    """The sum of the distances of the pairs."""
    return sum([numbers[one][other] for one, other in tree])


def _with_joined(groups, one, other):
    """The groups of the marks when those of two marks are put together."""
    return {mark: groups[one] if groups[mark] == groups[other] else groups[mark] for mark in groups}


def _least_pairs(numbers):
    """The pairs of the least tree, from the levels of the marks."""
    pairs = [(numbers[one][other], one, other) for one in numbers for other in numbers if one < other]
    groups = {mark: mark for mark in numbers}
    tree = []
    for _, one, other in sorted(pairs):
        if groups[one] != groups[other]:
            groups = _with_joined(groups, one, other)
            tree.append((one, other))
    return sorted(tree)


def _round_along(house, task, numbers, tree):
    """The round of the task that walks along the pairs of the tree."""
    joined = {mark: _partners(tree, mark) for mark in numbers}
    trip = _trip_by(joined, _way_within(joined, task.start, task.end))
    walk = [task.start]
    for one, other in zip(trip, trip[1:]):
        walk = joined_walks(walk, way_down(house, one, numbers[other]))
    return walk


def _partners(tree, mark):
    """The marks that are joined to the mark by a pair, ascending."""
    return sorted([one if other == mark else other for one, other in tree if mark in (one, other)])


def _way_within(joined, start, end):
    """The marks on the way from the start to the end within the tree."""
    ahead = {end: end}
    stack = [end]
    while stack:
        mark = stack.pop()
        for other in joined[mark]:
            if other not in ahead:
                ahead[other] = mark
                stack.append(other)
    way = [start]
    while way[-1] != end:
        way.append(ahead[way[-1]])
    return way


def _trip_by(joined, way):
    """The marks in the order in which the round comes to them, side trips ahead of the next one on the way."""
    trip = []
    for mark in way:
        trip.append(mark)
        for other in joined[mark]:
            if other not in way:
                trip = trip + _side_trip(joined, other, mark) + [mark]
    return trip


def _side_trip(joined, mark, origin):
    """The marks of the trip from a mark through all that hangs there but the origin, and back to it."""
    trip = [mark]
    for other in joined[mark]:
        if other != origin:
            trip = trip + _side_trip(joined, other, mark) + [mark]
    return trip
