"""Drawings of a house with the marks of a task and a plan, and the sums of the plan."""

from pickaisle.plans import plan_length
from pickaisle.tasks import check_task


def drawing(house, task, plan):
    """Return the drawing of the house with the marks of the task and the numbers of the plan."""
    check_task(house, task)
    return "\n".join([_line_at(house, task, plan, height) for height in reversed(range(house.top + 1))])


def totals(house, plan):
    """Return a line for each aisle and each gap with the sum of the lengths of the links of the plan in it."""
    lines = [f"aisle {aisle}: {_total(house, plan, 'up', aisle)} up" for aisle in range(house.aisles)]
    lines.extend([f"gap {gap}: {_total(house, plan, 'over', gap)} over" for gap in range(house.aisles - 1)])
    return "\n".join(lines)


def _total(house, plan, word, aisle):
    """The sum of the lengths of the links of the plan with this word and number."""
    return plan_length(house, {link: number for link, number in plan.items() if link[:2] == (word, aisle)})


def _line_at(house, task, plan, height):
    """The line of the drawing for a height."""
    line = _column_at(house, task, (0, height))
    for aisle in range(1, house.aisles):
        line += _between(house, plan, ("over", aisle - 1, height)) + _column_at(house, task, (aisle, height))
    if height == house.top:
        return line
    return line + " " + "".join([_sign_of(house, plan, ("up", aisle, height)) for aisle in range(house.aisles)])


def _column_at(house, task, place):
    """The character for a place."""
    if place in (task.start, task.end):
        if task.start == task.end:
            return "B"
        return "S" if place == task.start else "E"
    if task.has_pick(place):
        return "o"
    return "+" if house.is_cross(place) else "|"


def _between(house, plan, link):
    """The five characters between two columns."""
    if not house.is_link(link):
        return "     "
    if house.is_closed(link):
        return "  x  "
    number = plan.get(link, 0)
    return f"--{number}--" if number > 0 else "-----"


def _sign_of(house, plan, link):
    """The character for an up link."""
    return "x" if house.is_closed(link) else str(plan.get(link, 0))
