"""What the tests find in another way than the program: by going over everything in a small house."""

from itertools import combinations

from pickaisle.houses import House
from pickaisle.tasks import Task


def all_links(house):
    """Every link of the house, closed or not, with its two places and its length."""
    heights = [sum(house.lengths[:number]) for number in range(len(house.lengths) + 1)]
    links = {}
    for aisle in range(len(house.gaps) + 1):
        for height in range(heights[-1]):
            links[("up", aisle, height)] = ((aisle, height), (aisle, height + 1), 1)
    for aisle, width in enumerate(house.gaps):
        for height in heights:
            links[("over", aisle, height)] = ((aisle, height), (aisle + 1, height), width)
    return links


def all_places(house):
    return [(aisle, height) for aisle in range(len(house.gaps) + 1) for height in range(sum(house.lengths) + 1)]


def steps_from(house, place):
    """The places that a link that is not closed joins to this one, with the lengths."""
    steps = []
    for link, (one, other, length) in all_links(house).items():
        if link not in house.closed:
            if one == place:
                steps.append((other, length))
            if other == place:
                steps.append((one, length))
    return sorted(steps)


def step_table(house):
    return {place: steps_from(house, place) for place in all_places(house)}


def simple_walks(house, start):
    """All walks from the start that pass no place twice, as tuples (length, walk)."""
    table = step_table(house)
    found = []
    stack = [(0, [start])]
    while stack:
        length, walk = stack.pop()
        found.append((length, walk))
        for other, more in table[walk[-1]]:
            if other not in walk:
                stack.append((length + more, walk + [other]))
    return found


def least_ways_from(house, start):
    """For each place that is reached the tuple of its distance and the first least walk to it."""
    best = {}
    for length, walk in simple_walks(house, start):
        place = walk[-1]
        if place not in best or (length, walk) < best[place]:
            best[place] = (length, walk)
    return best


def hang_together(marks, pairs):
    """Tell whether all marks can be come to from the first one along the pairs."""
    come_to = {marks[0]}
    for _ in marks:
        for one, other in pairs:
            if one in come_to or other in come_to:
                come_to |= {one, other}
    return set(marks) <= come_to


def all_trees(marks):
    """All trees over the marks, as ascending lists of pairs."""
    pairs = list(combinations(sorted(marks), 2))
    return [list(chosen) for chosen in combinations(pairs, len(marks) - 1) if hang_together(marks, chosen)]


def way_in_tree(tree, one, other):
    """The pairs of the tree on the way between two marks."""
    stack = [(one, [])]
    while stack:
        mark, pairs = stack.pop()
        if mark == other:
            return pairs
        for pair in tree:
            if mark in pair and pair not in pairs:
                stack.append((pair[0] if pair[1] == mark else pair[1], pairs + [pair]))
    return None


def small_houses():
    """Houses with one and more aisles, one and two stretches, with and without closed links."""
    return [
        House([3], [], []),
        House([1, 2], [], [("up", 0, 2)]),
        House([1], [1], []),
        House([3], [2], [("up", 0, 1)]),
        House([2], [2, 1], []),
        House([2], [1, 1], [("over", 0, 0), ("over", 0, 2)]),
        House([1, 1], [2], []),
        House([2, 1], [1, 3], []),
        House([1, 1], [1, 1], [("over", 0, 1), ("up", 1, 0)]),
        House([1, 2], [2, 1], [("up", 0, 1), ("up", 2, 2), ("over", 1, 3)]),
        House([2], [1, 2, 1], [("over", 1, 0)]),
    ]


def small_tasks(house):
    """Tasks of a small house, with none to four picks."""
    places = all_places(house)
    crosses = [place for place in places if house.is_cross(place)]
    low, high = crosses[0], crosses[-1]
    return [
        Task(low, low, []),
        Task(low, high, []),
        Task(high, low, [places[1]]),
        Task(high, high, sorted({places[1], places[-2]})),
        Task(low, crosses[1], places[-3:]),
        Task(crosses[1], crosses[1], places[::2][:4]),
        Task(crosses[1], high, sorted({places[1], *places[::3][-3:]})),
    ]


def house_state(house):
    return (house.lengths, house.gaps, house.closed, house.top, house.aisles)


def task_state(task):
    return (task.start, task.end, task.picks)
