"""Least plans: one of them, their number, all of them, and the numbers that each link has in them."""

from pickaisle.errors import TooLarge, Unreachable
from pickaisle.kinds import DONE, NONE
from pickaisle.layers import all_layers, lengths_to_done
from pickaisle.pieces import options_between
from pickaisle.tasks import check_task
from pickaisle.ways import cut_off

MOST_PLANS = 2000


def least_plan(house, task):
    """Return a least plan."""
    leads = _least_leads(house, task)
    state, plan = NONE, {}
    for row in leads:
        state, numbers = row[state][0]
        for link, number in numbers:
            if number > 0:
                plan[link] = number
    return plan


def count_plans(house, task):
    """Return the number of the least plans."""
    return _count(_least_leads(house, task))


def all_plans(house, task):
    """Return the list of all least plans, ascending."""
    leads = _least_leads(house, task)
    if _count(leads) > MOST_PLANS:
        raise TooLarge("there are more than 2000 least plans")
    rows = [(NONE, [])]
    for row in leads:
        rows = [(behind, plan + _walked(numbers)) for state, plan in rows for behind, numbers in row[state]]
    return [{link: number for link, number in plan} for plan in sorted([sorted(plan) for _, plan in rows])]


def told_numbers(house, task):
    """Return a dict from all links that are not closed to the ascending lists of their numbers in least plans."""
    told = {link: {} for link in house.walked_links()}
    for row in _least_leads(house, task):
        for state in row:
            for _, numbers in row[state]:
                for link, number in numbers:
                    if link in told:
                        told[link][number] = True
    return {link: sorted(told[link]) for link in told}


def _least_leads(house, task):
    """What leads on in least plans: for each layer a dict from states to lists of tuples (state behind, numbers).

    The numbers are tuples (link, number) for all links of the layer. A state stands there if least plans come to it.
    """
    check_task(house, task)
    layers = all_layers(house, task, options_between)
    lengths = lengths_to_done(layers)
    if DONE not in lengths[-1]:
        raise Unreachable(cut_off(house, task))
    rows = []
    states = [NONE]
    for layer, ahead, behind in zip(layers, lengths, lengths[1:]):
        row = {state: _least_of(layer, state, ahead[state], behind) for state in states}
        rows.append(row)
        states = list({after: True for state in row for after, _ in row[state]})
    return rows


def _least_of(layer, state, length, behind):
    """The tuples (state behind, numbers) of those leads from the state that make the least length to "done"."""
    found = []
    for after, more, choice in layer.leads(state):
        if after in behind and more + behind[after] == length:
            found.append((after, layer.numbers(choice)))
    return found


def _walked(numbers):
    """The tuples of links and numbers with numbers above 0."""
    return [(link, number) for link, number in numbers if number > 0]


def _count(leads):
    """The number of the rows of leads, one in each layer, from "none" to "done"."""
    counts = {NONE: 1}
    for row in leads:
        found = {}
        for state in row:
            for behind, _ in row[state]:
                found[behind] = found.get(behind, 0) + counts[state]
        counts = found
    return counts[DONE]
