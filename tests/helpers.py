"""What the tests find in another way than the program: by going over everything in a small house."""

from copy import deepcopy
from heapq import heappop, heappush
from itertools import combinations, product

from pickaisle.errors import InvalidPlace
from pickaisle.houses import House
from pickaisle.tasks import Task


def all_links(house):
    """Every link of the house, closed or not, with its two places and its length."""
    heights = [sum(house.lengths[:number]) for number in range(len(house.lengths) + 1)]
    links = {}
    for aisle in range(len(house.gaps) + 1):
        for height in range(heights[-1]):
            links[("up", aisle, height)] = ((aisle, height), (aisle, height + 1), 1)
    for aisle, width in enumerate(house.gaps):
        for height in heights:
            links[("over", aisle, height)] = ((aisle, height), (aisle + 1, height), width)
    return links


def all_places(house):
    return [(aisle, height) for aisle in range(len(house.gaps) + 1) for height in range(sum(house.lengths) + 1)]


def steps_from(house, place):
    """The places that a link that is not closed joins to this one, with the lengths."""
    steps = []
    for link, (one, other, length) in all_links(house).items():
        if link not in house.closed:
            if one == place:
                steps.append((other, length))
            if other == place:
                steps.append((one, length))
    return sorted(steps)


def step_table(house):
    return {place: steps_from(house, place) for place in all_places(house)}


def simple_walks(house, start):
    """All walks from the start that pass no place twice, as tuples (length, walk)."""
    table = step_table(house)
    found = []
    stack = [(0, [start])]
    while stack:
        length, walk = stack.pop()
        found.append((length, walk))
        for other, more in table[walk[-1]]:
            if other not in walk:
                stack.append((length + more, walk + [other]))
    return found


def least_ways_from(house, start):
    """For each place that is reached the tuple of its distance and the first least walk to it."""
    best = {}
    for length, walk in simple_walks(house, start):
        place = walk[-1]
        if place not in best or (length, walk) < best[place]:
            best[place] = (length, walk)
    return best


def hang_together(marks, pairs):
    """Tell whether all marks can be come to from the first one along the pairs."""
    come_to = {marks[0]}
    for _ in marks:
        for one, other in pairs:
            if one in come_to or other in come_to:
                come_to |= {one, other}
    return set(marks) <= come_to


def all_trees(marks):
    """All trees over the marks, as ascending lists of pairs."""
    pairs = list(combinations(sorted(marks), 2))
    return [list(chosen) for chosen in combinations(pairs, len(marks) - 1) if hang_together(marks, chosen)]


def way_in_tree(tree, one, other):
    """The pairs of the tree on the way between two marks."""
    stack = [(one, [])]
    while stack:
        mark, pairs = stack.pop()
        if mark == other:
            return pairs
        for pair in tree:
            if mark in pair and pair not in pairs:
                stack.append((pair[0] if pair[1] == mark else pair[1], pairs + [pair]))
    return None


def small_houses():
    """Houses with one and more aisles, one and two stretches, with and without closed links."""
    return [
        House([3], [], []),
        House([1, 2], [], [("up", 0, 2)]),
        House([1], [1], []),
        House([3], [2], [("up", 0, 1)]),
        House([2], [2, 1], []),
        House([2], [1, 1], [("over", 0, 0), ("over", 0, 2)]),
        House([1, 1], [2], []),
        House([2, 1], [1, 3], []),
        House([1, 1], [1, 1], [("over", 0, 1), ("up", 1, 0)]),
        House([1, 2], [2, 1], [("up", 0, 1), ("up", 2, 2), ("over", 1, 3)]),
        House([2], [1, 2, 1], [("over", 1, 0)]),
    ]


def small_tasks(house):
    """Tasks of a small house, with none to four picks."""
    places = all_places(house)
    crosses = [place for place in places if house.is_cross(place)]
    low, high = crosses[0], crosses[-1]
    return [
        Task(low, low, []),
        Task(low, high, []),
        Task(high, low, [places[1]]),
        Task(high, high, sorted({places[1], places[-2]})),
        Task(low, crosses[1], places[-3:]),
        Task(crosses[1], crosses[1], places[::2][:4]),
        Task(crosses[1], high, sorted({places[1], *places[::3][-3:]})),
    ]


def house_state(house):
    return (house.lengths, house.gaps, house.closed, house.top, house.aisles)


def task_state(task):
    return (task.start, task.end, task.picks)


def hanging(nodes, pairs):
    """For each node the tuple of all nodes that hang together with it by the pairs, in one order for all of them."""
    group = {node: node for node in nodes}
    members = {node: [node] for node in nodes}
    for one, other in pairs:
        old, new = group[other], group[one]
        if old != new:
            for node in members[old]:
                group[node] = new
            members[new] += members.pop(old)
    tuples = {name: tuple(sorted(together, key=str)) for name, together in members.items()}
    return {node: tuples[group[node]] for node in nodes}


def least_round_length(house, task):
    """The length of a least round, from a search over all places and sets of passed picks; None if there is none."""
    table = step_table(house)
    begin = (task.start, frozenset(pick for pick in task.picks if pick == task.start))
    numbers, queue = {}, [(0, 0, begin)]
    added = 0
    while queue:
        length, _, (place, passed) = heappop(queue)
        if (place, passed) in numbers:
            continue
        numbers[(place, passed)] = length
        if place == task.end and len(passed) == len(task.picks):
            return length
        for other, more in table[place]:
            added += 1
            heappush(queue, (length + more, added, (other, passed | ({other} & set(task.picks)))))
    return None


def odd_places(task):
    return [] if task.start == task.end else [task.start, task.end]


def cross_heights(house):
    return [sum(house.lengths[:number]) for number in range(len(house.lengths) + 1)]


def named(numbers, groups):
    """The kind with the numbers, its groups numbered anew in the order in which they come first."""
    seen = [group for number, group in zip(numbers, groups) if number > 0]
    order = sorted(set(seen), key=seen.index)
    return tuple((number, order.index(group) + 1) if number > 0 else (0, 0) for number, group in zip(numbers, groups))


def links_of_aisle(house, aisle):
    """The links of the aisle and of the gap behind it, closed or not, with their places and lengths."""
    return {link: row for link, row in all_links(house).items() if link[1] == aisle}


def kind_behind(house, task, aisle, kind, numbers):
    """The kind behind the aisle if its links and those behind it have these numbers, or None if this is no step."""
    marks = {place for place in [task.start, task.end] + task.picks if place[0] == aisle}
    if kind == "done":
        return None if marks or any(numbers.values()) else "done"
    links = links_of_aisle(house, aisle)
    heights = cross_heights(house)
    ahead = {height: (0, 0) if kind == "none" else kind[at] for at, height in enumerate(heights)}
    places = [(aisle, height) for height in range(heights[-1] + 1)]
    sums = {place: ahead.get(place[1], (0, 0))[0] for place in places}
    pairs = [((aisle, height), ("group", group)) for height, (number, group) in ahead.items() if number > 0]
    for link, number in numbers.items():
        if number > 0 and link in house.closed:
            return None
        for place in links[link][:2]:
            sums[place] = sums.get(place, 0) + number
        if number > 0:
            pairs.append(links[link][:2])
    if any(sums[place] % 2 != (place in odd_places(task)) for place in places):
        return None
    nodes = set(places) | {node for pair in pairs for node in pair}
    hung = hanging(nodes, pairs)
    lots = {hung[place] for place in places if sums[place] > 0 or place in marks}
    if any(not set(lot) & {(aisle, height) for height in heights} for lot in lots):
        return None
    overs = [numbers.get(("over", aisle, height), 0) for height in heights]
    if any(overs):
        groups = [hung[(aisle, height)] for height in heights]
        met = {group for group, number in zip(groups, overs) if number > 0}
        return named(overs, groups) if lots == met else None
    if kind == "none" and not marks:
        return None if lots else "none"
    return "done" if len(lots) == 1 else None


def all_numbers(house, links):
    """All dicts from the links to 0, 1 and 2, those that are closed always having 0."""
    for chosen in product(*[(0,) if link in house.closed else (0, 1, 2) for link in links]):
        yield dict(zip(links, chosen))


def large_house():
    """A house at the bounds of the document, with closed links in its aisles and gaps."""
    widths = [1 + (7 * gap) % 40 for gap in range(10)] + [40]
    closed = [("up", 2, 41), ("up", 5, 10), ("up", 7, 12), ("up", 7, 40), ("over", 3, 40), ("over", 8, 0)]
    return House([40, 40], widths, closed)


def large_task():
    """A task with 60 picks for it, with two ends and a round."""
    picks = [(aisle, 3 + (11 * aisle + 17 * step) % 78) for aisle in range(12) for step in range(5)]
    return Task((4, 80), (9, 0), picks)


def wrong_tasks(house):
    """Tasks that do not fit the house, with the first wrong place of each."""
    last, top = len(house.gaps), sum(house.lengths)
    inside = min(set(range(1, top)) - set(cross_heights(house)), default=top + 1)
    return [
        (Task((0, -1), (last + 1, 0), [(-1, 0)]), (0, -1)),
        (Task((last, inside), (0, 0), []), (last, inside)),
        (Task((0, 0), (last, inside), [(-1, 0)]), (last, inside)),
        (Task((0, 0), (-1, 0), [(-1, 0)]), (-1, 0)),
        (Task((0, top), (0, 0), [(last, top + 1), (0, 1), (0, top + 1)]), (0, top + 1)),
        (Task((last, 0), (last, 0), [(last + 1, 0), (0, 0)]), (last + 1, 0)),
    ]


def refuse_wrong_tasks(case, house, call):
    """Assert that the call raises InvalidPlace with the first wrong place, and changes nothing."""
    for task, place in wrong_tasks(house):
        before = (house_state(house), task_state(task))
        with case.assertRaises(InvalidPlace) as caught:
            call(house, task)
        case.assertEqual(caught.exception.place, place)
        case.assertEqual((house_state(house), task_state(task)), before)


def assert_new_and_nothing_changed(case, house, task, call):
    """Assert that the call changes nothing, and returns a list or dict that is new each time, with all in it."""
    before = (house_state(house), task_state(task))
    first = call(house, task)
    wanted = deepcopy(first)
    empty_out(first)
    case.assertEqual(call(house, task), wanted)
    case.assertEqual((house_state(house), task_state(task)), before)


def empty_out(value):
    """Empty a list or dict, and all those that stand in it."""
    for inner in list(value.values()) if isinstance(value, dict) else list(value):
        if isinstance(inner, (list, dict)):
            empty_out(inner)
    value.clear()


def is_plan(house, task, plan):
    """Tell by the words of point [41] whether a dict from links that are not closed to 1 or 2 is a plan of the task."""
    links = all_links(house)
    sums = {place: 0 for place in all_places(house)}
    for link, number in plan.items():
        for place in links[link][:2]:
            sums[place] += number
    if any(sums[place] % 2 != (place in odd_places(task)) for place in sums):
        return False
    touched = {place for link in plan for place in links[link][:2]} | {task.start, task.end, *task.picks}
    hung = hanging(touched, [links[link][:2] for link in plan])
    return set(hung[task.start]) == touched


def all_plans(house, task):
    """All plans of the task in a very small house."""
    plans = [{link: number for link, number in numbers.items() if number > 0}
             for numbers in all_numbers(house, list(all_links(house)))]
    return [plan for plan in plans if is_plan(house, task, plan)]


def plan_size(house, plan):
    """The length of a plan."""
    return sum(all_links(house)[link][2] * number for link, number in plan.items())


def kind_at(house, task, plan, gap):
    """The kind of a plan at a gap, by the words of point [33]."""
    numbers = [plan.get(("over", gap, height), 0) for height in cross_heights(house)]
    if not any(numbers):
        return "done" if any(place[0] <= gap for place in [task.start, task.end] + task.picks) else "none"
    ahead = [link for link in plan if link[1] < gap or (link[0] == "up" and link[1] == gap)]
    places = [place for place in all_places(house) if place[0] <= gap]
    hung = hanging(places, [all_links(house)[link][:2] for link in ahead])
    return named(numbers, [hung[(gap, height)] for height in cross_heights(house)])


def times_of(house, walk):
    """How often the walk goes along each link."""
    links = {row[:2]: link for link, row in all_links(house).items()}
    times = {}
    for pair in zip(walk, walk[1:]):
        link = links[(min(pair), max(pair))]
        times[link] = times.get(link, 0) + 1
    return times


def plan_by(house, walk):
    """The plan of a walk, by the words of point [42]."""
    return {link: 2 - number % 2 for link, number in times_of(house, walk).items()}


def chance_walk(house, start, many, chance):
    """A walk of so many links, each taken by chance."""
    table = step_table(house)
    walk = [start]
    for _ in range(many):
        if table[walk[-1]]:
            walk.append(chance.choice(table[walk[-1]])[0])
    return walk


def plan_houses():
    """Very small houses, in which all plans can be gone through."""
    return [House([1], [1, 1], []), House([2], [1], []), House([1, 1], [2], []), House([2], [], []),
            House([1, 1], [1], [("over", 0, 1)]), House([1], [2, 1], [("up", 1, 0)])]


def all_kinds(heights):
    """All kinds for so many cross heights, each with the numbers of odd places that it fits."""
    rows = [(number, group) for number in (0, 1, 2) for group in range(heights + 1)]
    kinds = {"none": [0], "done": [0, 2]}
    for value in product(rows, repeat=heights):
        numbers, groups = zip(*value)
        if any(numbers) and named(numbers, groups) == value:
            sums = [sum(number for number, group in value if group == told) for told in sorted(set(groups) - {0})]
            many = len([total for total in sums if total % 2])
            if many <= 2:
                kinds[value] = [0, 2] if many == 0 else [many]
    return kinds
