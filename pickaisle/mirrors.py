"""Houses and tasks that are turned: flipped upside down, or swapped left and right."""

from pickaisle.houses import House
from pickaisle.tasks import Task, check_task


def flipped_house(house):
    """Return the house upside down."""
    closed = [_link_at(link[0], [_flipped(house, place) for place in house.ends_of(link)]) for link in house.closed]
    return House(house.lengths[::-1], house.gaps, closed)


def swapped_house(house):
    """Return the house with its aisles numbered from the other side."""
    closed = [_link_at(link[0], [_swapped(house, place) for place in house.ends_of(link)]) for link in house.closed]
    return House(house.lengths, house.gaps[::-1], closed)


def flipped_task(house, task):
    """Return the task flipped as the house is."""
    check_task(house, task)
    return Task(_flipped(house, task.start), _flipped(house, task.end), [_flipped(house, pick) for pick in task.picks])


def swapped_task(house, task):
    """Return the task swapped as the house is."""
    check_task(house, task)
    return Task(_swapped(house, task.start), _swapped(house, task.end), [_swapped(house, pick) for pick in task.picks])


def _flipped(house, place):
    """The place in the flipped house."""
    aisle, height = place
    return (aisle, house.top - height)


def _swapped(house, place):
    """The place in the swapped house."""
    aisle, height = place
    return (house.aisles - 1 - aisle, height)


def _link_at(word, places):
    """The link with the word that joins the two places."""
    aisle, height = min(places)
    return (word, aisle, height)
