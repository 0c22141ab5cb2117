"""Steps through an aisle, tables of their least lengths, and the length of a least round."""

from pickaisle.junctions import Junction
from pickaisle.kinds import DONE, NONE, kinds_of, odd_at
from pickaisle.pieces import best_options, options_of
from pickaisle.tasks import check_task


def kinds_ahead(house, task, aisle):
    """Return the list of the kinds from which steps through the aisle may lead."""
    check_task(house, task)
    if aisle == 0:
        return [NONE]
    return kinds_of(len(house.crosses()), odd_at(task, aisle - 1))


def steps(house, task, aisle, kind):
    """Return the list of all steps through the aisle from the kind."""
    check_task(house, task)
    options = [options_of(house, task, aisle, stretch) for stretch, _ in enumerate(house.lengths)]
    return _steps_with(Junction(house, task, aisle), _rows_of(options), kind)


def best_steps(house, task, aisle, kind):
    """Return the list of the steps through the aisle from the kind that have best options alone."""
    check_task(house, task)
    return _steps_with(Junction(house, task, aisle), _best_rows(house, task, aisle), kind)


def table(house, task, aisle):
    """Return a dict from tuples of a kind ahead and a kind behind to the least lengths of steps between them."""
    return table_from(house, task, aisle, kinds_ahead(house, task, aisle))


def product(first, second):
    """Return the product of the two tables."""
    onward = {}
    for (kind, behind), length in second.items():
        onward.setdefault(kind, []).append((behind, length))
    found = {}
    for (ahead, kind), length in first.items():
        for behind, more in onward.get(kind, []):
            whole = length + more
            found[(ahead, behind)] = min(whole, found.get((ahead, behind), whole))
    return found


def product_of(house, task, first, last):
    """Return the product of the tables of the aisles from the first to the last one."""
    whole = table(house, task, first)
    for aisle in range(first + 1, last + 1):
        whole = product(whole, table(house, task, aisle))
    return whole


def lengths_from(house, task):
    """Return a list of dicts: for each kind behind the aisles so far the least sum of the lengths of steps to it."""
    check_task(house, task)
    dicts = [{NONE: 0}]
    for aisle in range(house.aisles):
        last = dicts[-1]
        ahead = {(NONE, kind): length for kind, length in last.items()}
        reached = product(ahead, table_from(house, task, aisle, list(last)))
        dicts.append({kind: length for (_, kind), length in reached.items()})
    return dicts


def least_length(house, task):
    """Return the length of a least round, or None if there is no round."""
    return lengths_from(house, task)[-1].get(DONE)


def _rows_of(options):
    """All tuples of an option for each stretch, in the order of the options stretch by stretch from below."""
    rows = [()]
    for choices in options:
        rows = [row + (option,) for row in rows for option in choices]
    return rows


def _best_rows(house, task, aisle):
    """All tuples of a best option for each stretch of the aisle."""
    return _rows_of([best_options(house, task, aisle, stretch) for stretch, _ in enumerate(house.lengths)])


def _steps_with(junction, rows, kind):
    """The steps from the kind with the tuples of options, in their order."""
    found = []
    for ups in rows:
        length = sum([option[0] for option in ups])
        ends = tuple([option[1:4] for option in ups])
        for behind, more, overs in junction.leads(kind, ends):
            found.append((behind, length + more, ups, overs))
    return found


def table_from(house, task, aisle, kinds):
    """The table of the aisle, as far as it tells of these kinds ahead."""
    junction = Junction(house, task, aisle)
    rows = _best_rows(house, task, aisle)
    found = {}
    for kind in kinds:
        for behind, length, _, _ in _steps_with(junction, rows, kind):
            found[(kind, behind)] = min(length, found.get((kind, behind), length))
    return found
