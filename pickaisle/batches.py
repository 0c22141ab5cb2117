"""Orders put together on carts: lots, least partings, and papers that show that no parting is shorter."""

from itertools import combinations

from pickaisle.errors import InvalidPlace, Unreachable
from pickaisle.tables import least_length
from pickaisle.tasks import Task
from pickaisle.ways import levels


def lots_of(many, most):
    """Return the list of all lots of at most so many orders, ascending."""
    return [lot for size in range(1, min(many, most) + 1) for lot in combinations(range(many), size)]


def lot_length(house, start, end, orders, lot):
    """Return the length of a least round of the lot."""
    _check_orders(house, start, end, orders)
    return _length_of(house, start, end, orders, lot)


def least_parting(house, start, end, orders, most):
    """Return the tuple of the length of a least parting and such a parting, its lots ascending."""
    best = _least_partings(len(orders), _lengths_of_lots(house, start, end, orders, most))
    length, parting = best[tuple(range(len(orders)))]
    return (length, sorted(parting, key=lambda lot: (len(lot), lot)))


def parting_paper(house, start, end, orders, most):
    """Return a dict from tuples of orders to numbers that shows that no parting is shorter than a least one."""
    best = _least_partings(len(orders), _lengths_of_lots(house, start, end, orders, most))
    return {told: best[told][0] for told in best}


def shows_parting(house, start, end, orders, most, paper, length):
    """Tell whether the paper shows that no parting is shorter than the length."""
    lengths = _lengths_of_lots(house, start, end, orders, most)
    tuples = _tuples_of(len(orders))
    if not all(told in paper for told in tuples) or paper[()] != 0:
        return False
    # The last tuple is the one with all orders.
    if paper[tuples[-1]] < length:
        return False
    return all(_rises_rightly(paper, told, lengths) for told in tuples)


def worth(house, start, end, one, other):
    """Return the worth of putting the two orders together."""
    lengths = _lengths_of_lots(house, start, end, [one, other], 2)
    return lengths[(0,)] + lengths[(1,)] - lengths[(0, 1)]


def _check_orders(house, start, end, orders):
    """Raise InvalidPlace for the first place that does not fit the house, then Unreachable for the first one."""
    picks = [pick for order in orders for pick in order]
    for place in [start, end]:
        if not house.is_cross(place):
            raise InvalidPlace(place)
    for place in picks:
        if not house.is_place(place):
            raise InvalidPlace(place)
    numbers = levels(house, start)
    for place in [end] + picks:
        if place not in numbers:
            raise Unreachable(place)


def _length_of(house, start, end, orders, lot):
    """The length of a least round of the lot."""
    picks = {pick: True for number in lot for pick in orders[number]}
    return least_length(house, Task(start, end, list(picks)))


def _lengths_of_lots(house, start, end, orders, most):
    """A dict from all lots to the lengths of their least rounds, after a check of all places."""
    _check_orders(house, start, end, orders)
    return {lot: _length_of(house, start, end, orders, lot) for lot in lots_of(len(orders), most)}


def _tuples_of(many):
    """All tuples of numbers of so many orders, by how many numbers they have."""
    return [()] + lots_of(many, many)


def _least_partings(many, lengths):
    """A dict from all tuples of numbers of orders to the length of a least parting of these, and this parting."""
    best = {(): (0, [])}
    for told in lots_of(many, many):
        found = []
        # Some lot of the parting has the first order; all partings of the rest were found ahead.
        for lot in lengths:
            if lot[0] == told[0] and all(number in told for number in lot):
                length, parting = best[tuple([number for number in told if number not in lot])]
                found.append((length + lengths[lot], parting + [lot]))
        best[told] = min(found)
    return best


def _rises_rightly(paper, told, lengths):
    """Tell whether the numbers rise by at most the length of each lot that has no number of the tuple."""
    for lot in lengths:
        if not any(number in told for number in lot):
            if paper[tuple(sorted(told + lot))] > paper[told] + lengths[lot]:
                return False
    return True
