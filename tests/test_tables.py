"""Points [3], [5] and [35] to [38]: steps, tables, their products, and the length of a least round."""

import unittest
from itertools import product as all_tuples

import helpers
from pickaisle.houses import House
from pickaisle.kinds import fits, kinds_of, odd_at
from pickaisle.pieces import best_options, options_of
from pickaisle.rounds import nearest_round, walk_length
from pickaisle.tables import best_steps, kinds_ahead, least_length, lengths_from, product, product_of, steps, table
from pickaisle.tasks import Task
from pickaisle.trees import tree_bounds
from pickaisle.ways import cut_off

NONE, DONE = "none", "done"
EXAMPLE_HOUSE = House([10], [4], [])
EXAMPLE_TASK = Task((0, 0), (0, 0), [(1, 3), (1, 4), (1, 9)])


def cases():
    """The small houses with the small tasks, aisle by aisle."""
    return [(house, task, aisle) for house in helpers.small_houses() for task in helpers.small_tasks(house)
            for aisle in range(house.aisles)]


def few_cases():
    """Some of them, of each house."""
    return cases()[::3]


def numbers_of(house, aisle, ups, overs):
    """The numbers of the single links of a step."""
    numbers = {}
    heights = helpers.cross_heights(house)
    for stretch, (_, low, high, _, left_out) in enumerate(ups):
        left = range(*left_out) if left_out else []
        for height in range(heights[stretch], heights[stretch + 1]):
            numbers[("up", aisle, height)] = 0 if height in left else max(low, high, 1) if left_out is None else 2
    if aisle < len(house.gaps):
        for height, number in zip(heights, overs):
            numbers[("over", aisle, height)] = number
    return numbers


def steps_by_words(house, task, aisle, kind, options):
    """All steps with the options, in the order of point [35] and the interface."""
    links = helpers.links_of_aisle(house, aisle)
    heights = helpers.cross_heights(house)
    choices = (0, 1, 2) if aisle < len(house.gaps) else (0,)
    found = []
    for ups in all_tuples(*options):
        for overs in all_tuples(choices, repeat=len(heights)):
            numbers = numbers_of(house, aisle, ups, overs)
            behind = helpers.kind_behind(house, task, aisle, kind, numbers)
            if behind is not None:
                length = sum(links[link][2] * number for link, number in numbers.items())
                found.append((behind, length, ups, overs))
    return found


def table_by_search(house, task, aisle):
    """The table of the aisle, from all numbers 0, 1 and 2 of the single links."""
    links = helpers.links_of_aisle(house, aisle)
    found = {}
    for kind in kinds_ahead(house, task, aisle):
        for numbers in helpers.all_numbers(house, list(links)):
            behind = helpers.kind_behind(house, task, aisle, kind, numbers)
            if behind is not None:
                length = sum(links[link][2] * number for link, number in numbers.items())
                found[(kind, behind)] = min(length, found.get((kind, behind), length))
    return found


class KindsAhead(unittest.TestCase):
    def test_all(self):
        for house, task, aisle in cases():
            wanted = kinds_of(len(house.crosses()), odd_at(task, aisle - 1)) if aisle > 0 else [NONE]
            self.assertEqual(kinds_ahead(house, task, aisle), wanted)

    def test_how_many(self):
        house, task = helpers.large_house(), helpers.large_task()
        told = [len(kinds_ahead(house, task, aisle)) for aisle in range(12)]
        self.assertEqual(told, [1] + [25] * 4 + [34] * 5 + [36] * 2)


class Steps(unittest.TestCase):
    def test_all_steps_in_their_order(self):
        for house, task, aisle in few_cases():
            options = [options_of(house, task, aisle, stretch) for stretch in range(len(house.lengths))]
            for kind in kinds_ahead(house, task, aisle)[::2]:
                wanted = steps_by_words(house, task, aisle, kind, options)
                self.assertEqual(steps(house, task, aisle, kind), wanted)

    def test_best_steps_have_best_options(self):
        for house, task, aisle in few_cases():
            best = [best_options(house, task, aisle, stretch) for stretch in range(len(house.lengths))]
            for kind in kinds_ahead(house, task, aisle)[1::2] or [NONE]:
                wanted = steps_by_words(house, task, aisle, kind, best)
                self.assertEqual(best_steps(house, task, aisle, kind), wanted)

    def test_best_steps_are_fewer(self):
        found = steps(EXAMPLE_HOUSE, EXAMPLE_TASK, 1, ((2, 1), (2, 1)))
        best = best_steps(EXAMPLE_HOUSE, EXAMPLE_TASK, 1, ((2, 1), (2, 1)))
        self.assertEqual([step[2][0][4] for step in found], [None, (0, 3), (3, 4), (4, 9), (9, 10)])
        self.assertEqual([step[2][0][4] for step in best], [None, (0, 3), (4, 9), (9, 10)])
        self.assertEqual(found[0], (DONE, 20, ((20, 2, 2, True, None),), (0, 0)))

    def test_kinds_behind_fit(self):
        for house, task, aisle in few_cases():
            for kind in kinds_ahead(house, task, aisle):
                for behind, _, _, overs in steps(house, task, aisle, kind):
                    self.assertIs(fits(behind, odd_at(task, aisle)), True)
                    self.assertEqual([number for number, _ in behind] if any(overs) else [0] * len(overs), list(overs))

    def test_one_aisle(self):
        house = House([3], [], [])
        self.assertEqual(steps(house, Task((0, 0), (0, 0), []), 0, NONE),
                         [(DONE, 6, ((6, 2, 2, True, None),), (0, 0)), (DONE, 0, ((0, 0, 0, False, (0, 3)),), (0, 0))])
        self.assertEqual(steps(house, Task((0, 0), (0, 3), []), 0, NONE),
                         [(DONE, 3, ((3, 1, 1, True, None),), (0, 0))])
        self.assertEqual(steps(house, Task((0, 3), (0, 3), [(0, 1)]), 0, NONE),
                         [(DONE, 6, ((6, 2, 2, True, None),), (0, 0)), (DONE, 4, ((4, 0, 2, False, (0, 1)),), (0, 0))])
        self.assertEqual(steps(House([3], [], [("up", 0, 2)]), Task((0, 3), (0, 3), [(0, 1)]), 0, NONE), [])

    def test_from_done_and_to_none(self):
        house, task = House([2], [1, 1, 1], []), Task((1, 0), (1, 0), [(2, 1)])
        nothing = ((0, 0, 0, False, (0, 2)),)
        self.assertEqual(steps(house, task, 3, DONE), [(DONE, 0, nothing, (0, 0))])
        self.assertEqual(steps(house, task, 2, DONE), [])
        self.assertEqual([step for step in steps(house, task, 0, NONE) if step[0] == NONE],
                         [(NONE, 0, nothing, (0, 0))])
        self.assertEqual([step for step in steps(house, task, 1, NONE) if step[0] == NONE], [])
        self.assertEqual(steps(house, task, 3, NONE), [(NONE, 0, nothing, (0, 0))])

    def test_links_ahead_of_the_first_mark(self):
        house, task = House([2], [1, 1], []), Task((2, 0), (2, 0), [])
        behind = [step[0] for step in steps(house, task, 0, NONE)]
        self.assertEqual(behind, [((1, 1), (1, 1)), ((0, 0), (2, 1)), ((2, 1), (0, 0)), ((2, 1), (2, 1)), NONE,
                                  ((0, 0), (2, 1)), ((2, 1), (0, 0)), ((2, 1), (2, 2))])

    def test_a_closed_link_behind(self):
        house, task = House([1], [2], [("over", 0, 1)]), Task((0, 0), (0, 0), [(1, 1)])
        self.assertEqual(steps(house, task, 0, NONE), [
            (DONE, 2, ((2, 2, 2, True, None),), (0, 0)), (((2, 1), (0, 0)), 6, ((2, 2, 2, True, None),), (2, 0)),
            (DONE, 0, ((0, 0, 0, False, (0, 1)),), (0, 0)),
            (((2, 1), (0, 0)), 4, ((0, 0, 0, False, (0, 1)),), (2, 0))])

    def test_at_the_bounds(self):
        house = House([40, 40], [40] * 11, [("over", 3, 40)])
        task = Task((3, 0), (7, 80), [(3, height) for height in list(range(1, 31)) + list(range(41, 71))])
        kind = ((1, 1), (0, 0), (1, 1))
        found = steps(house, task.with_ends((0, 0), (0, 0)), 3, kind)
        self.assertTrue(all(step in found for step in best_steps(house, task.with_ends((0, 0), (0, 0)), 3, kind)))
        for kind in kinds_ahead(house, task, 3):
            least = {}
            for behind, length, _, _ in steps(house, task, 3, kind):
                least[behind] = min(length, least.get(behind, length))
            told = {behind: length for (ahead, behind), length in table(house, task, 3).items() if ahead == kind}
            self.assertEqual(told, least)


class Tables(unittest.TestCase):
    def test_the_example(self):
        self.assertEqual(table(EXAMPLE_HOUSE, EXAMPLE_TASK, 1)[(((2, 1), (0, 0)), DONE)], 18)

    def test_all_numbers_of_single_links(self):
        for house, task, aisle in cases()[::2]:
            self.assertEqual(table(house, task, aisle), table_by_search(house, task, aisle))

    def test_a_closed_link_in_each_piece(self):
        for heights in [[], [0], [2], [4], [0, 1], [0, 2], [2, 3], [0, 2, 4]]:
            house = House([5], [2, 1], [("up", 1, height) for height in heights])
            for task in [Task((0, 0), (2, 5), [(1, 2), (1, 4)]), Task((1, 0), (1, 5), [(1, 2), (1, 4)])]:
                self.assertEqual(table(house, task, 1), table_by_search(house, task, 1))

    def test_what_it_does_not_hang_on(self):
        for lengths, top in [([2], 2), ([2, 1], 3)]:
            house, task = House(lengths, [2, 3, 1], []), Task((0, 0), (3, top), [(1, 1)])
            wanted = table(house, task, 1)
            others = [("over", 0, 0), ("over", 2, 0), ("up", 0, 1), ("up", 2, 0), ("up", 3, 1)]
            for closed in [[link] for link in others] + [others]:
                self.assertEqual(table(House(lengths, [2, 3, 1], closed), task, 1), wanted)
            self.assertEqual(table(House(lengths, [5, 3, 7], []), task, 1), wanted)
            self.assertEqual(table(House(lengths, [2, 3], []), Task((0, 0), (2, top), [(1, 1)]), 1), wanted)
            for picks in [[], [(0, 1)], [(2, 0), (3, 1), (0, top)]]:
                self.assertEqual(table(house, Task((0, 0), (3, top), [(1, 1)] + picks), 1), wanted)
            self.assertEqual(table(house, Task((2, top), (0, top), [(1, 1)]), 1), wanted)

    def test_what_it_hangs_on(self):
        house, task = House([2, 2], [2, 3, 1], []), Task((0, 0), (3, 4), [(1, 1)])
        wanted = table(house, task, 1)
        for closed in [[("over", 1, 0)], [("over", 1, 2)], [("up", 1, 0)], [("up", 1, 3)]]:
            self.assertNotEqual(table(House([2, 2], [2, 3, 1], closed), task, 1), wanted)
        self.assertNotEqual(table(House([2, 2], [2, 4, 1], []), task, 1), wanted)
        self.assertNotEqual(table(House([2, 3], [2, 3, 1], []), Task((0, 0), (3, 5), [(1, 1)]), 1), wanted)
        self.assertNotEqual(table(House([2, 2], [2], []), Task((0, 0), (0, 4), [(1, 1)]), 1), wanted)
        self.assertNotEqual(table(House([2, 2], [3, 1], []), Task((0, 0), (2, 4), [(0, 1)]), 0), wanted)
        for other in [Task((0, 0), (3, 4), []), Task((0, 0), (3, 4), [(1, 1), (1, 3)]), Task((0, 0), (0, 0), [(1, 1)]),
                      Task((1, 0), (3, 4), [(1, 1)]), Task((2, 0), (3, 4), [(1, 1)]), Task((0, 0), (0, 4), [(1, 1)])]:
            self.assertNotEqual(table(house, other, 1), wanted)

    def test_at_the_bounds(self):
        house, task = helpers.large_house(), helpers.large_task()
        for aisle in range(12):
            found = table(house, task, aisle)
            for kind in kinds_ahead(house, task, aisle)[::8]:
                least = {}
                for behind, length, _, _ in steps(house, task, aisle, kind):
                    least[behind] = min(length, least.get(behind, length))
                self.assertEqual({pair[1]: found[pair] for pair in found if pair[0] == kind}, least)


class Products(unittest.TestCase):
    def test_any_kinds_and_integers(self):
        first = {("a", "b"): 3, ("a", "c"): 10 ** 40, ("d", "b"): -5, ("d", "e"): 0}
        second = {("b", "a"): 4, ("c", "a"): -(10 ** 40), ("c", "x"): 1, ("b", ((2, 1),)): 0, ("y", "a"): -100}
        self.assertEqual(product(first, second), {("a", "a"): 0, ("a", "x"): 10 ** 40 + 1, ("a", ((2, 1),)): 3,
                                                  ("d", "a"): -1, ("d", ((2, 1),)): -5})
        self.assertEqual(first[("a", "b")], 3)
        self.assertEqual(len(second), 5)

    def test_nothing_between(self):
        self.assertEqual(product({}, {("a", "b"): 1}), {})
        self.assertEqual(product({("a", "b"): 1}, {}), {})
        self.assertEqual(product({("a", "b"): 1}, {("c", "d"): 1}), {})

    def test_by_all_kinds_between(self):
        for house, task, aisle in few_cases():
            if aisle > 0:
                first, second = table(house, task, aisle - 1), table(house, task, aisle)
                found = {}
                for (ahead, one), length in first.items():
                    for (other, behind), more in second.items():
                        if one == other:
                            found[(ahead, behind)] = min(length + more, found.get((ahead, behind), length + more))
                self.assertEqual(product(first, second), found)

    def test_the_order_does_not_matter(self):
        for house, task in {(house, task): 1 for house, task, _ in cases() if house.aisles > 2}:
            tables = [table(house, task, aisle) for aisle in range(house.aisles)]
            whole = product_of(house, task, 0, house.aisles - 1)
            for middle in range(1, house.aisles):
                parts = product_of(house, task, 0, middle - 1), product_of(house, task, middle, house.aisles - 1)
                self.assertEqual(product(*parts), whole)
            self.assertEqual(product(tables[0], product(tables[1], tables[2])), product_of(house, task, 0, 2))

    def test_product_of_some_aisles(self):
        house, task = House([1, 1], [1, 1], [("over", 0, 1), ("up", 1, 0)]), Task((0, 0), (2, 2), [(1, 1)])
        for aisle in range(3):
            self.assertEqual(product_of(house, task, aisle, aisle), table(house, task, aisle))
        self.assertEqual(product_of(house, task, 1, 2), product(table(house, task, 1), table(house, task, 2)))


class Lengths(unittest.TestCase):
    def test_the_example(self):
        self.assertEqual(least_length(EXAMPLE_HOUSE, EXAMPLE_TASK), 26)
        closed = House([10], [4], [("over", 0, 0), ("over", 0, 10)])
        self.assertIsNone(least_length(closed, EXAMPLE_TASK))

    def test_two_picks_in_each_of_six_aisles(self):
        house = House([6, 6], [3, 4, 5, 3, 4], [])
        task = Task((0, 0), (5, 12), [(aisle, height) for aisle in range(6) for height in (2, 9)])
        self.assertEqual(least_length(house, task), 93)
        self.assertEqual(product_of(house, task, 0, 5), {(NONE, DONE): 93})

    def test_calls_one_after_another_do_not_matter_to_each_other(self):
        cases = self.all_tasks()[::7]
        alone = [lengths_from(house, task) for house, task in cases]
        for (house, task), wanted in reversed(list(zip(cases, alone))):
            self.assertEqual(lengths_from(house, task), wanted)

    def all_tasks(self):
        wide = [House([2], [1, 1, 1], [("up", 1, 0)]), House([1, 1], [1, 2, 1], [("over", 1, 1)])]
        return [(house, task) for house in helpers.small_houses() + wide for task in helpers.small_tasks(house)]

    def test_a_search_over_places_and_passed_picks(self):
        none = 0
        for house, task in self.all_tasks():
            length = helpers.least_round_length(house, task)
            self.assertEqual(least_length(house, task), length)
            self.assertEqual(product_of(house, task, 0, house.aisles - 1).get((NONE, DONE)), length)
            self.assertIs(length is None, cut_off(house, task) is not None)
            none += length is None
        self.assertGreater(none, 0)

    def test_start_and_end_in_one_aisle_or_two(self):
        house = House([2, 1], [1, 2], [("up", 1, 1)])
        crosses = [place for place in house.places() if house.is_cross(place)]
        for start in crosses:
            for end in crosses:
                for picks in [[], [(1, 2), (0, 1)], [(2, 2), (1, 1), (0, 3)]]:
                    task = Task(start, end, picks)
                    self.assertEqual(least_length(house, task), helpers.least_round_length(house, task))

    def test_no_marks_but_one(self):
        for house in [House([1], [], []), House([3, 2], [4], []), House([40], [40] * 11, [])]:
            for place in [(0, 0), (0, house.top)]:
                self.assertEqual(least_length(house, Task(place, place, [])), 0)
                self.assertEqual(least_length(house, Task(place, place, [place])), 0)

    def test_lengths_from_are_those_of_the_rows_of_steps(self):
        for house, task, _ in few_cases():
            wanted = [{NONE: 0}]
            for aisle in range(house.aisles):
                found = {}
                for (ahead, behind), more in table(house, task, aisle).items():
                    if ahead in wanted[-1]:
                        found[behind] = min(wanted[-1][ahead] + more, found.get(behind, wanted[-1][ahead] + more))
                wanted.append(found)
            self.assertEqual(lengths_from(house, task), wanted)

    def test_lengths_from_without_a_round(self):
        task = Task((0, 0), (0, 0), [(1, 1)])
        self.assertEqual(lengths_from(House([1], [1], [("over", 0, 0), ("over", 0, 1)]), task),
                         [{NONE: 0}, {DONE: 0}, {}])
        self.assertIsNone(least_length(House([3], [], [("up", 0, 0), ("up", 0, 2)]), Task((0, 0), (0, 0), [(0, 1)])))
        closed = House([3], [1], [("up", 0, 0), ("up", 0, 2)])
        self.assertEqual(lengths_from(closed, Task((0, 0), (0, 0), [(0, 1)])), [{NONE: 0}, {}, {}])

    def test_at_the_bounds(self):
        house, task = helpers.large_house(), helpers.large_task()
        length = least_length(house, task)
        low, high = tree_bounds(house, task)
        self.assertTrue(low <= length <= min(high, walk_length(house, nearest_round(house, task))))
        halves = product(product_of(house, task, 0, 5), product_of(house, task, 6, 11))
        self.assertEqual(halves, {(NONE, DONE): length})
        self.assertEqual(lengths_from(house, task)[-1], {DONE: length})
        self.assertEqual(len(lengths_from(house, task)), 13)

    def test_a_known_length_at_the_bounds(self):
        picks = [(aisle, height) for aisle in range(12) for height in [16, 32, 48, 64, 79]]
        # No stretch costs less than 40, and each gap is walked at least twice.
        self.assertEqual(least_length(House([40, 40], [1] * 11, []), Task((0, 0), (0, 0), picks)), 24 * 40 + 22)
        picks = [(aisle, height) for aisle in range(12) for height in [8, 16, 24, 32, 40]]
        self.assertEqual(least_length(House([40], [40] * 11, []), Task((5, 0), (5, 0), picks)), 12 * 40 + 880)


class Wrong(unittest.TestCase):
    def each_call(self):
        return [lambda house, task: kinds_ahead(house, task, 1), lambda house, task: steps(house, task, 0, NONE),
                lambda house, task: best_steps(house, task, 0, NONE), lambda house, task: table(house, task, 1),
                lambda house, task: product_of(house, task, 0, 1), lengths_from]

    def test_a_task_that_does_not_fit(self):
        for house in [House([3], [1], []), House([2, 2], [1, 1], [("up", 0, 1)])]:
            for call in self.each_call() + [least_length]:
                helpers.refuse_wrong_tasks(self, house, call)

    def test_nothing_changes(self):
        house, task = House([2, 1], [1], [("up", 1, 0)]), Task((0, 0), (1, 3), [(0, 1), (1, 1)])
        for call in self.each_call():
            helpers.assert_new_and_nothing_changed(self, house, task, call)


if __name__ == "__main__":
    unittest.main()
