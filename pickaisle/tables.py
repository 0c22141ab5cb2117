"""Steps through an aisle, tables of their least lengths, and the length of a least round."""

from pickaisle.kinds import DONE, NONE, kinds_of, odd_at
from pickaisle.layers import heights_of, layers_of, lengths_past
from pickaisle.pieces import best_between, options_between
from pickaisle.profiles import Profiles
from pickaisle.tasks import check_task


def kinds_ahead(house, task, aisle):
    """Return the list of the kinds from which steps through the aisle may lead."""
    check_task(house, task)
    if aisle == 0:
        return [NONE]
    return kinds_of(len(house.crosses()), odd_at(task, aisle - 1))


def steps(house, task, aisle, kind):
    """Return the list of all steps through the aisle from the kind."""
    check_task(house, task)
    return _steps_by(_layers_at(house, task, aisle, options_between), kind)


def best_steps(house, task, aisle, kind):
    """Return the list of the steps through the aisle from the kind that have best options alone."""
    check_task(house, task)
    return _steps_by(_layers_at(house, task, aisle, best_between), kind)


def table(house, task, aisle):
    """Return a dict from tuples of a kind ahead and a kind behind to the least lengths of steps between them."""
    return table_from(house, task, aisle, kinds_ahead(house, task, aisle))


def product(first, second):
    """Return the product of the two tables."""
    # The kinds behind are numbered, as they are looked up again and again, and numbers are found faster than kinds.
    numbers = {}
    onward = {}
    for (kind, behind), length in second.items():
        onward.setdefault(kind, []).append((numbers.setdefault(behind, len(numbers)), length))
    rows = {}
    for (ahead, kind), length in first.items():
        row = rows.setdefault(ahead, {})
        for number, more in onward.get(kind, []):
            whole = length + more
            if number not in row or whole < row[number]:
                row[number] = whole
    kinds = list(numbers)
    return {(ahead, kinds[number]): length for ahead, row in rows.items() for number, length in row.items()}


def product_of(house, task, first, last):
    """Return the product of the tables of the aisles from the first to the last one."""
    whole = table(house, task, first)
    for aisle in range(first + 1, last + 1):
        whole = product(whole, table(house, task, aisle))
    return whole


def lengths_from(house, task):
    """Return a list of dicts: for each kind behind the aisles so far the least sum of the lengths of steps to it."""
    check_task(house, task)
    dicts = [{NONE: 0}]
    profiles = Profiles()
    for aisle in range(house.aisles):
        layers = layers_of(house, task, aisle, heights_of(task, aisle), profiles, best_between)
        dicts.append(lengths_past(layers, dicts[-1]))
    return dicts


def least_length(house, task):
    """Return the length of a least round, or None if there is no round."""
    return lengths_from(house, task)[-1].get(DONE)


def table_from(house, task, aisle, kinds):
    """Return the table of the aisle, as far as it tells of these kinds ahead."""
    layers = _layers_at(house, task, aisle, best_between)
    found = {}
    for kind in kinds:
        for behind, length in lengths_past(layers, {kind: 0}).items():
            found[(kind, behind)] = length
    return found


def _layers_at(house, task, aisle, find_options):
    """The layers of the aisle, whose stretches have the options that the function finds."""
    return layers_of(house, task, aisle, heights_of(task, aisle), Profiles(), find_options)


def _steps_by(layers, kind):
    """The steps from the kind through an aisle with these layers, in the order of their choices."""
    rows = [(kind, 0, ())]
    for layer in layers:
        rows = [(behind, length + more, choices + (choice,)) for state, length, choices in rows
                for behind, more, choice in layer.leads(state)]
    # At coming in there is nothing to choose, so that the first choice tells nothing.
    return [(behind, length, choices[1:-1], choices[-1]) for behind, length, choices in rows]
