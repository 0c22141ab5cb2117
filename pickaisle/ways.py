"""Ways: levels, distances, least ways, and what cannot be reached."""

from heapq import heappop, heappush

from pickaisle.errors import InvalidPlace, Unreachable
from pickaisle.tasks import check_task


def levels(house, place):
    """Return a dict from all places that are reached from the place to their distances."""
    if not house.is_place(place):
        raise InvalidPlace(place)
    numbers = {}
    queue = [(0, place)]
    while queue:
        number, here = heappop(queue)
        if here not in numbers:
            numbers[here] = number
            for other, length in house.beside(here):
                if other not in numbers:
                    heappush(queue, (number + length, other))
    return numbers


def reached(house, place):
    """Return the list of all places that are reached from the place, ascending."""
    return sorted(levels(house, place))


def check_levels(house, place, numbers):
    """Tell whether the dict is that of the levels from the place."""
    if numbers.get(place) != 0:
        return False
    for here in numbers:
        if not house.is_place(here) or numbers[here] < 0:
            return False
        if not _agrees_beside(house, here, numbers):
            return False
        if here != place and not _has_step_back(house, here, numbers):
            return False
    return True


def _agrees_beside(house, here, numbers):
    """Tell whether all places beside have numbers, none too far from that of the place."""
    for other, length in house.beside(here):
        if other not in numbers or abs(numbers[other] - numbers[here]) > length:
            return False
    return True


def _has_step_back(house, here, numbers):
    """Tell whether the number of the place comes from that of a place beside."""
    return any(numbers[other] + length == numbers[here] for other, length in house.beside(here))


def distance(house, one, other):
    """Return the distance of the two places, or None if the other one is not reached."""
    _check_places(house, one, other)
    return levels(house, one).get(other)


def least_way(house, one, other):
    """Return the least way from the one place to the other one, or None."""
    _check_places(house, one, other)
    numbers = levels(house, other)
    if one not in numbers:
        return None
    return way_down(house, one, numbers)


def way_down(house, place, numbers):
    """Return the least way from a place to the one from which the numbers are the levels."""
    way = [place]
    while numbers[way[-1]] > 0:
        here = way[-1]
        # The places beside come in ascending order, so the first one that is nearer gives the first walk.
        nearer = [other for other, length in house.beside(here) if numbers[other] + length == numbers[here]]
        way.append(nearer[0])
    return way


def _check_places(house, one, other):
    """Raise InvalidPlace for the first of the two that is no place of the house."""
    for place in [one, other]:
        if not house.is_place(place):
            raise InvalidPlace(place)


def cut_off(house, task):
    """Return the first mark that is not reached from the start: the end, then the picks; or None."""
    check_task(house, task)
    numbers = levels(house, task.start)
    for mark in [task.end] + task.picks:
        if mark not in numbers:
            return mark
    return None


def check_cut(house, task, place, places):
    """Tell whether the places of the list cut off the place."""
    check_task(house, task)
    inside = set(places)
    if place not in task.marks() or place in inside or task.start not in inside:
        return False
    for here in places:
        if not house.is_place(here):
            return False
        for other, _ in house.beside(here):
            if other not in inside:
                return False
    return True


def links_at(house, links):
    """Return a dict from each place that a link of the list joins to the list of its links."""
    found = {}
    for link in links:
        for place in house.ends_of(link):
            found.setdefault(place, []).append(link)
    return found


def far_end(house, link, place):
    """Return the place that the link joins to the place."""
    one, other = house.ends_of(link)
    return other if one == place else one


def places_along(house, links, place):
    """Return a dict of True for all places to which the links of the list lead from the place, itself included."""
    joined = links_at(house, links)
    found = {place: True}
    stack = [place]
    while stack:
        here = stack.pop()
        for link in joined.get(here, []):
            other = far_end(house, link, here)
            if other not in found:
                found[other] = True
                stack.append(other)
    return found


def check_round(house, task):
    """Raise InvalidPlace if the task does not fit, then Unreachable if it has no round."""
    mark = cut_off(house, task)
    if mark is not None:
        raise Unreachable(mark)
