"""Kinds: all that matters of the links ahead of a gap for those behind it."""

from pickaisle.tasks import check_task
from pickaisle.ways import places_along

NONE = "none"
DONE = "done"
MOST_ODD = 2


def is_odd(task, place):
    """Tell whether the place is odd in the task: one of two ends."""
    return task.start != task.end and place in (task.start, task.end)


def odd_at(task, gap):
    """Return how many odd places stand in the aisles up to the gap."""
    return len([place for place in [task.start, task.end] if is_odd(task, place) and place[0] <= gap])


def kinds_of(heights, odd):
    """Return the list of all kinds for so many cross heights that fit the number of odd places."""
    kinds = [()]
    for _ in range(heights):
        kinds = [kind + (row,) for kind in kinds for row in _rows_behind(kind)]
    walked = [kind for kind in kinds if _has_number(kind)]
    return [kind for kind in [NONE, DONE] + walked if fits(kind, odd)]


def is_kind(heights, value):
    """Tell whether the value is a kind for so many cross heights that fits some number of odd places."""
    if isinstance(value, str):
        return value in (NONE, DONE)
    if len(value) != heights or not _has_number(value):
        return False
    if not all(value[number] in _rows_behind(value[:number]) for number in range(heights)):
        return False
    return _odd_groups(value) <= MOST_ODD


def fits(kind, odd):
    """Tell whether the kind fits the number of odd places."""
    if kind == NONE:
        return odd == 0
    if kind == DONE:
        return odd in (0, MOST_ODD)
    many = _odd_groups(kind)
    return many == odd or (many == 0 and odd == MOST_ODD)


def kind_of(house, task, plan, gap):
    """Return the kind of the plan of the task at the gap."""
    check_task(house, task)
    crosses = house.crosses()
    numbers = [plan.get(("over", gap, height), 0) for height in crosses]
    if not any(numbers):
        return NONE if all(aisle > gap for aisle, _ in task.marks()) else DONE
    # The over links of the gap itself are among these, but join nothing in the aisles up to it.
    links = [link for link in plan if link[1] <= gap]
    labels = []
    for height in crosses:
        come_to = places_along(house, links, (gap, height))
        labels.append(min([other for other in crosses if (gap, other) in come_to]))
    return kind_from(numbers, labels)


def covers(one, other):
    """Tell whether the first kind covers the second one."""
    if one == other:
        return True
    if isinstance(one, str) or isinstance(other, str):
        return False
    return _numbers_cover(one, other) and _groups_cover(one, other)


def flipped_kind(kind):
    """Return the flipped kind."""
    if isinstance(kind, str):
        return kind
    return kind_from([number for number, _ in reversed(kind)], [group for _, group in reversed(kind)])


def kind_from(numbers, labels):
    """Return the kind with these numbers from below, where links with the same label have the same group."""
    groups = {}
    rows = []
    for number, label in zip(numbers, labels):
        if number == 0:
            rows.append((0, 0))
        else:
            group = groups.setdefault(label, len(groups) + 1)
            rows.append((number, group))
    return tuple(rows)


def _rows_behind(kind):
    """All tuples of a number and a group that may follow the tuples of the beginning of a kind, ascending."""
    newest = max([group for _, group in kind], default=0) + 1
    return [(0, 0)] + [(number, group) for number in (1, 2) for group in range(1, newest + 1)]


def _has_number(kind):
    """Tell whether some link of the kind has a number above 0."""
    return any(number > 0 for number, _ in kind)


def _odd_groups(kind):
    """The number of the groups that have an odd sum of their numbers."""
    sums = {}
    for number, group in kind:
        sums[group] = sums.get(group, 0) + number
    return len([group for group in sums if sums[group] % 2 == 1])


def _numbers_cover(one, other):
    """Tell whether the first kind has the number 1 at the same heights, and the number 2 where the other one has it."""
    for (number, _), (covered, _) in zip(one, other):
        if (number == 1) != (covered == 1) or (covered == 2 and number != 2):
            return False
    return True


def _groups_cover(one, other):
    """Tell whether the first kind keeps the common groups of the other one, and has a link of it in each group."""
    walked = [number for number, _ in enumerate(other) if other[number][0] > 0]
    for low in walked:
        for high in walked:
            if other[low][1] == other[high][1] and one[low][1] != one[high][1]:
                return False
    kept = [one[number][1] for number in walked]
    return all(group in kept for _, group in one if group > 0)
