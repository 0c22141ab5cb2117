"""Plain rules: rounds that need no search, and a bound below which no round is."""

from pickaisle.errors import InvalidTask
from pickaisle.pieces import pieces_of
from pickaisle.rounds import walk_length
from pickaisle.tasks import check_task


def is_plain(house, task):
    """Tell whether the house and the task are plain."""
    check_task(house, task)
    if len(house.lengths) > 1 or house.closed:
        return False
    return task.start == task.end and task.start[1] == 0


def rule_round(house, task, rule):
    """Return the round that the rule gives."""
    _check_plain(house, task)
    used = _used_aisles(task)
    if rule == "through":
        return _walk_past(_stops_through(house, task, used))
    if rule == "back" or len(used) <= 1:
        return _walk_past(_stops_back(task, used))
    return _walk_past(_stops_around(house, task, used, rule))


def rule_length(house, task, rule):
    """Return the length of the round that the rule gives."""
    return walk_length(house, rule_round(house, task, rule))


def plain_bound(house, task):
    """Return the plain bound, below which no round is."""
    _check_plain(house, task)
    used = _used_aisles(task)
    least = min(used + [task.start[0]])
    greatest = max(used + [task.start[0]])
    bound = 2 * sum(house.gaps[least:greatest])
    for aisle in used:
        lower, upper = _greatest_piece(house, task, aisle)
        bound += min(house.top, 2 * (house.top - (upper - lower)))
    return bound


def _check_plain(house, task):
    """Raise InvalidPlace if the task does not fit the house, then InvalidTask if they are not plain."""
    if not is_plain(house, task):
        raise InvalidTask("the house and the task are not plain")


def _used_aisles(task):
    """The aisles that have a pick, ascending."""
    return sorted(set([aisle for aisle, _ in task.picks]))


def _highest_pick(task, aisle):
    """The height of the highest pick of the aisle."""
    return max([height for number, height in task.picks if number == aisle])


def _walk_past(stops):
    """The walk past the stops, each of which is straight above, below or beside the one ahead of it."""
    walk = [stops[0]]
    for stop in stops[1:]:
        while walk[-1] != stop:
            aisle, height = walk[-1]
            walk.append((_nearer(aisle, stop[0]), _nearer(height, stop[1])))
    return walk


def _nearer(number, aim):
    """The number, by at most 1 nearer to the aim."""
    return max(number - 1, min(number + 1, aim))


def _stops_back(task, used):
    """The stops of a round that goes up each used aisle to its highest pick and back."""
    stops = [task.start]
    for aisle in used:
        stops.extend(_trip(aisle, 0, _highest_pick(task, aisle)))
    return stops + [task.start]


def _stops_through(house, task, used):
    """The stops of a round that walks the used aisles whole, by turns up and down."""
    stops = [task.start]
    whole = len(used) // 2 * 2
    for number, aisle in enumerate(used[:whole]):
        here = house.top * (number % 2)
        stops.extend([(aisle, here), (aisle, house.top - here)])
    for aisle in used[whole:]:
        stops.extend(_trip(aisle, 0, _highest_pick(task, aisle)))
    return stops + [task.start]


def _stops_around(house, task, used, rule):
    """The stops of a round up the first used aisle, down the last one, and into those between from both sides."""
    first, last = used[0], used[-1]
    left_out = {aisle: _left_out(house, task, aisle, rule) for aisle in used[1:-1]}
    # Both ways at the height 0 lead to the left where they pass aisles between, so these come in descending order.
    ahead = [aisle for aisle in reversed(used[1:-1]) if aisle <= task.start[0]]
    behind = [aisle for aisle in reversed(used[1:-1]) if aisle > task.start[0]]
    stops = [task.start]
    for aisle in ahead:
        stops.extend(_trip(aisle, 0, left_out[aisle][0]))
    stops.extend([(first, 0), (first, house.top)])
    for aisle in used[1:-1]:
        stops.extend(_trip(aisle, house.top, left_out[aisle][1]))
    stops.extend([(last, house.top), (last, 0)])
    for aisle in behind:
        stops.extend(_trip(aisle, 0, left_out[aisle][0]))
    return stops + [task.start]


def _trip(aisle, here, there):
    """The stops of a trip in an aisle from one height to another one and back."""
    return [(aisle, here), (aisle, there), (aisle, here)]


def _left_out(house, task, aisle, rule):
    """The piece of an aisle between that the rule leaves out."""
    if rule == "gap":
        return _greatest_piece(house, task, aisle)
    heights = [height for number, height in task.picks if number == aisle]
    lower = max([height for height in heights if 2 * height <= house.top], default=0)
    upper = min([height for height in heights if 2 * height > house.top], default=house.top)
    return (lower, upper)


def _greatest_piece(house, task, aisle):
    """The greatest piece of the aisle, of several the lowest."""
    return max(pieces_of(house, task, aisle, 0), key=lambda piece: piece[1] - piece[0])
