"""Plans: how often each link is walked, without an order."""

from pickaisle.errors import InvalidPlan
from pickaisle.kinds import is_odd
from pickaisle.rounds import links_of_walk
from pickaisle.tasks import check_task
from pickaisle.ways import far_end, links_at, places_along


def plan_fault(house, task, plan):
    """Return the first fault of the dict as a plan of the task, a tuple of a word and a link or place; or None."""
    check_task(house, task)
    return _link_fault(house, plan) or _parity_fault(house, task, plan) or _apart_fault(house, task, plan)


def is_plan(house, task, plan):
    """Tell whether the dict is a plan of the task."""
    return plan_fault(house, task, plan) is None


def check_plan(house, task, plan):
    """Raise InvalidPlace if the task does not fit the house, then InvalidPlan if the dict is no plan of it."""
    if not is_plan(house, task, plan):
        raise InvalidPlan("the dict is no plan of the task")


def plan_length(house, plan):
    """Return the length of the dict from links to numbers."""
    return sum([house.length_of(link) * number for link, number in plan.items()])


def plan_of_walk(house, walk):
    """Return the plan of the walk."""
    plan = {}
    for link in links_of_walk(house, walk):
        plan[link] = 2 if plan.get(link) == 1 else 1
    return plan


def trimmed(house, task, plan):
    """Return the plan of the task without dead ends."""
    check_plan(house, task, plan)
    kept = {link: number for link, number in plan.items()}
    joined = links_at(house, plan)
    marks = task.marks()
    stack = [place for place in joined if place not in marks]
    while stack:
        place = stack.pop()
        links = [link for link in joined[place] if link in kept]
        # A single link at a place that is no mark has the number 2, as the sum there is even.
        if len(links) == 1:
            del kept[links[0]]
            other = far_end(house, links[0], place)
            if other not in marks:
                stack.append(other)
    return kept


def added(first, second):
    """Return the sum of the two plans."""
    whole = {link: number for link, number in first.items()}
    for link, number in second.items():
        both = whole.get(link, 0) + number
        whole[link] = both - 2 if both > 2 else both
    return whole


def _link_fault(house, plan):
    """The first fault of the links of the dict and their numbers, or None."""
    links = sorted(plan)
    for link in links:
        if not house.is_link(link):
            return ("link", link)
    for link in links:
        if house.is_closed(link):
            return ("closed", link)
    for link in links:
        if plan[link] not in (1, 2):
            return ("number", link)
    return None


def _parity_fault(house, task, plan):
    """The fault of the first place whose sum is wrong, or None."""
    joined = links_at(house, plan)
    for place in house.places():
        whole = sum([plan[link] for link in joined.get(place, [])])
        if (whole % 2 == 1) != is_odd(task, place):
            return ("parity", place)
    return None


def _apart_fault(house, task, plan):
    """The fault of the first place that has to hang together with the start and does not, or None."""
    come_to = places_along(house, plan, task.start)
    for place in sorted(task.marks() + list(links_at(house, plan))):
        if place not in come_to:
            return ("apart", place)
    return None
