"""The pieces of a stretch, and the options of how often its links are walked."""

from pickaisle.tasks import check_task


def ends_of_stretch(house, stretch):
    """Return the tuple of the low and the high end of the stretch."""
    crosses = house.crosses()
    return (crosses[stretch], crosses[stretch + 1])


def marks_inside(house, task, aisle, stretch):
    """Return the list of the heights of the marks inside the stretch of the aisle, ascending."""
    check_task(house, task)
    low, high = ends_of_stretch(house, stretch)
    return [height for number, height in task.picks if number == aisle and low < height < high]


def pieces_of(house, task, aisle, stretch):
    """Return the list of the pieces of the stretch of the aisle, from below."""
    return _pieces_between(house, stretch, marks_inside(house, task, aisle, stretch))


def is_free(house, aisle, piece):
    """Tell whether no up link of the aisle between the two heights is closed."""
    low, high = piece
    return not any(house.is_closed(("up", aisle, height)) for height in range(low, high))


def options_of(house, task, aisle, stretch):
    """Return the list of all options of the stretch of the aisle."""
    return options_between(house, aisle, stretch, marks_inside(house, task, aisle, stretch))


def best_options(house, task, aisle, stretch):
    """Return the list of the first least option of those with each same low, high and joins."""
    return best_between(house, aisle, stretch, marks_inside(house, task, aisle, stretch))


def options_between(house, aisle, stretch, inside):
    """Return what options_of returns, for a stretch with marks inside at these heights, ascending."""
    pieces = _pieces_between(house, stretch, inside)
    closed = [piece for piece in pieces if not is_free(house, aisle, piece)]
    low, high = ends_of_stretch(house, stretch)
    options = []
    if not closed:
        options = [(high - low, 1, 1, True, None), (2 * (high - low), 2, 2, True, None)]
    for piece in pieces:
        if closed in ([], [piece]):
            options.append(_option_without(low, high, piece))
    return options


def best_between(house, aisle, stretch, inside):
    """Return what best_options returns, for a stretch with marks inside at these heights, ascending."""
    options = options_between(house, aisle, stretch, inside)
    best = {}
    for option in options:
        signs = option[1:4]
        if signs not in best or option[0] < best[signs][0]:
            best[signs] = option
    return [option for option in options if option == best[option[1:4]]]


def _pieces_between(house, stretch, inside):
    """The pieces of a stretch with marks inside at these heights, from below."""
    low, high = ends_of_stretch(house, stretch)
    return list(zip([low] + inside, inside + [high]))


def _option_without(low, high, piece):
    """The option of the stretch between the two heights that leaves the piece out."""
    lower, upper = piece
    length = 2 * (high - low - (upper - lower))
    return (length, 0 if lower == low else 2, 0 if upper == high else 2, False, piece)
