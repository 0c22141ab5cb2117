"""Walks that go along each link as often as a plan tells, and walks told in short."""

from pickaisle.plans import check_plan
from pickaisle.rounds import links_of_walk, walk_fault
from pickaisle.tasks import check_task
from pickaisle.ways import far_end, links_at

STEPS = {"up": (0, 1), "down": (0, -1), "right": (1, 0), "left": (-1, 0)}


def walk_of(house, task, plan):
    """Return a walk from the start to the end that goes along each link just as often as the plan tells."""
    check_plan(house, task, plan)
    left = {link: number for link, number in plan.items()}
    joined = links_at(house, plan)
    walk = []
    # From the end on, whatever can still be walked on is walked; where nothing can be, the places of the walk are
    # told, which so come from the start to the end.
    stack = [task.end]
    while stack:
        here = stack[-1]
        links = [link for link in joined.get(here, []) if left[link] > 0]
        if links:
            left[links[0]] -= 1
            stack.append(far_end(house, links[0], here))
        else:
            walk.append(stack.pop())
    return walk


def is_walk_of(house, task, plan, walk):
    """Tell whether the list is a walk from the start to the end along each link as often as the dict tells."""
    check_task(house, task)
    if walk_fault(house, walk) is not None or walk[0] != task.start or walk[-1] != task.end:
        return False
    times = {}
    for link in links_of_walk(house, walk):
        times[link] = times.get(link, 0) + 1
    return all(times.get(link, 0) == plan.get(link, 0) for link in list(times) + list(plan))


def runs_of(walk):
    """Return the runs of the walk."""
    runs = []
    for one, other in zip(walk, walk[1:]):
        word = _direction(one, other)
        if runs and runs[-1][0] == word:
            runs[-1] = (word, runs[-1][1] + 1)
        else:
            runs.append((word, 1))
    return runs


def walk_by(place, runs):
    """Return the list of the places of the walk from the place that has these runs."""
    walk = [place]
    for word, many in runs:
        right, up = STEPS[word]
        for _ in range(many):
            aisle, height = walk[-1]
            walk.append((aisle + right, height + up))
    return walk


def _direction(one, other):
    """The word for the step from the one tuple to the other one."""
    step = (other[0] - one[0], other[1] - one[1])
    return [word for word in STEPS if STEPS[word] == step][0]
