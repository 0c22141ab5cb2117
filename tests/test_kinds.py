"""Points [3], [5], [32] to [34], [39] and [40]: odd places, kinds, the kind of a plan, covering and flipping."""

import random
import unittest
from itertools import product

import helpers
from pickaisle import kinds
from pickaisle.houses import House
from pickaisle.kinds import covers, fits, flipped_kind, is_kind, kind_of, kinds_of, odd_at
from pickaisle.tables import product_of
from pickaisle.tasks import Task

NONE, DONE = "none", "done"


def covers_by_words(one, other):
    """Point [39], condition by condition."""
    if one == other:
        return True
    if isinstance(one, str) or isinstance(other, str):
        return False
    heights = range(len(one))
    pairs = [(low, high) for low in heights for high in heights if low < high]
    walked = [at for at in heights if other[at][0] > 0]
    return (all((one[at][0] == 1) == (other[at][0] == 1) for at in heights)
            and all(one[at][0] == 2 for at in heights if other[at][0] == 2)
            and all(one[low][1] == one[high][1] for low, high in pairs if other[low][1] == other[high][1] > 0)
            and {group for _, group in one if group} == {one[at][1] for at in walked})


class Names(unittest.TestCase):
    def test_words(self):
        self.assertEqual((kinds.NONE, kinds.DONE), ("none", "done"))


class Odd(unittest.TestCase):
    def test_two_places(self):
        for start, end in [((1, 0), (3, 4)), ((3, 0), (1, 4))]:
            told = [odd_at(Task(start, end, [(0, 1), (2, 2)]), gap) for gap in range(-1, 5)]
            self.assertEqual(told, [0, 0, 1, 1, 2, 2])

    def test_two_places_in_one_aisle(self):
        self.assertEqual([odd_at(Task((0, 0), (0, 4), []), gap) for gap in (-1, 0, 1)], [0, 2, 2])
        self.assertEqual([odd_at(Task((2, 4), (2, 0), [(0, 0)]), gap) for gap in (-1, 0, 1, 2)], [0, 0, 0, 2])

    def test_one_place(self):
        self.assertEqual([odd_at(Task((1, 4), (1, 4), [(1, 4), (0, 0)]), gap) for gap in range(-1, 4)], [0] * 5)

    def test_at_the_bounds(self):
        told = [odd_at(helpers.large_task(), gap) for gap in range(-1, 12)]
        self.assertEqual(told, [0] * 5 + [1] * 5 + [2] * 3)


class KindsOf(unittest.TestCase):
    def test_the_example(self):
        self.assertEqual(kinds_of(2, 1), [((0, 0), (1, 1)), ((1, 1), (0, 0)), ((1, 1), (2, 1)), ((1, 1), (2, 2)),
                                          ((2, 1), (1, 1)), ((2, 1), (1, 2))])

    def test_how_many(self):
        self.assertEqual([len(kinds_of(2, odd)) for odd in range(3)], [7, 6, 7])
        self.assertEqual([len(kinds_of(3, odd)) for odd in range(3)], [25, 34, 36])

    def test_all_in_order(self):
        for heights in (2, 3):
            everyone = helpers.all_kinds(heights)
            for odd in range(3):
                words = [word for word in (NONE, DONE) if odd in everyone[word]]
                tuples = sorted(kind for kind in everyone if not isinstance(kind, str) and odd in everyone[kind])
                self.assertEqual(kinds_of(heights, odd), words + tuples)

    def test_new_each_time(self):
        kinds_of(2, 0).clear()
        self.assertEqual(kinds_of(2, 0)[:3], [NONE, DONE, ((0, 0), (2, 1))])


class IsKind(unittest.TestCase):
    def test_words(self):
        for heights in (2, 3):
            self.assertIs(is_kind(heights, NONE), True)
            self.assertIs(is_kind(heights, DONE), True)
            for word in ["", "None", "done ", "nonedone", "up", "0"]:
                self.assertIs(is_kind(heights, word), False)

    def test_all_tuples_of_numbers(self):
        rows = {2: list(product(range(-1, 4), repeat=2)), 3: list(product(range(3), range(4))) + [(1, -1), (3, 1)]}
        for heights in (2, 3):
            everyone = helpers.all_kinds(heights)
            for value in product(rows[heights], repeat=heights):
                self.assertIs(is_kind(heights, value), value in everyone, value)

    def test_other_lengths(self):
        for heights in (2, 3):
            for length in range(5):
                self.assertIs(is_kind(heights, ((2, 1),) * length), length == heights)
                self.assertIs(is_kind(heights, ((0, 0),) * length), False)

    def test_far_off_numbers(self):
        for value in [((2, 10 ** 30), (0, 0)), ((10 ** 30, 1), (0, 0)), ((2, 1), (2, -10 ** 30)),
                      ((0, 10 ** 30), (2, 1))]:
            self.assertIs(is_kind(2, value), False)

    def test_three_odd_groups_fit_nothing(self):
        self.assertIs(is_kind(3, ((1, 1), (1, 2), (1, 3))), False)
        self.assertIs(is_kind(3, ((1, 1), (1, 2), (2, 3))), True)
        self.assertIs(is_kind(3, ((1, 1), (2, 2), (1, 1))), True)


class Fits(unittest.TestCase):
    def test_all(self):
        for heights in (2, 3):
            for kind, numbers in helpers.all_kinds(heights).items():
                for odd in range(3):
                    self.assertIs(fits(kind, odd), odd in numbers, (kind, odd))

    def test_words_of_the_document(self):
        self.assertEqual([fits(NONE, odd) for odd in range(3)], [True, False, False])
        self.assertEqual([fits(DONE, odd) for odd in range(3)], [True, False, True])
        self.assertEqual([fits(((1, 1), (1, 1)), odd) for odd in range(3)], [True, False, True])
        self.assertEqual([fits(((1, 1), (1, 2)), odd) for odd in range(3)], [False, False, True])
        self.assertEqual([fits(((1, 1), (0, 0)), odd) for odd in range(3)], [False, True, False])


class KindOf(unittest.TestCase):
    def test_all_plans_of_very_small_houses(self):
        seen = {}
        for house in helpers.plan_houses():
            for task in helpers.small_tasks(house):
                for plan in helpers.all_plans(house, task):
                    for gap in range(len(house.gaps)):
                        kind = kind_of(house, task, plan, gap)
                        self.assertEqual(kind, helpers.kind_at(house, task, plan, gap))
                        self.assertIs(fits(kind, odd_at(task, gap)), True)
                        seen[kind] = True
        self.assertTrue({DONE, ((1, 1), (1, 1)), ((2, 1), (2, 2)), ((1, 1), (0, 0), (1, 1))} <= set(seen))

    def test_plans_of_chance_walks(self):
        chance = random.Random(5)
        house = House([1, 2], [1, 1, 2], [("up", 1, 1), ("over", 1, 0)])
        seen = {}
        for _ in range(300):
            walk = helpers.chance_walk(house, chance.choice([(0, 0), (1, 1), (3, 3)]), 40, chance)
            if house.is_cross(walk[-1]):
                task, plan = Task(walk[0], walk[-1], sorted(set(walk[::9]))), helpers.plan_by(house, walk)
                for gap in range(3):
                    kind = kind_of(house, task, plan, gap)
                    self.assertEqual(kind, helpers.kind_at(house, task, plan, gap))
                    self.assertIs(fits(kind, odd_at(task, gap)), True)
                    seen[kind] = True
        self.assertGreater(len(seen), 25)

    def test_groups_count_from_below(self):
        house = House([1, 1], [1], [])
        task = Task((0, 0), (0, 0), [(0, 2), (1, 1)])
        plan = {("over", 0, 0): 2, ("over", 0, 2): 2, ("up", 1, 0): 2, ("up", 1, 1): 2}
        self.assertEqual(kind_of(house, task, plan, 0), ((2, 1), (0, 0), (2, 2)))
        plan = {("over", 0, 0): 1, ("over", 0, 2): 1, ("up", 1, 0): 1, ("up", 1, 1): 1, ("up", 0, 0): 1,
                ("up", 0, 1): 1}
        self.assertEqual(kind_of(house, task, plan, 0), ((1, 1), (0, 0), (1, 1)))

    def test_no_links_at_the_gap(self):
        house = House([2], [1, 1], [])
        self.assertEqual([kind_of(house, Task((1, 0), (1, 0), []), {}, gap) for gap in (0, 1)], [NONE, DONE])
        plan = {("up", 1, 0): 2}
        task = Task((1, 0), (1, 0), [(1, 1)])
        self.assertEqual([kind_of(house, task, plan, gap) for gap in (0, 1)], [NONE, DONE])
        plan = {("over", 0, 0): 2}
        self.assertEqual(kind_of(house, Task((1, 0), (1, 0), []), plan, 0), ((2, 1), (0, 0)))

    def test_at_the_bounds(self):
        house, widths = helpers.large_house(), helpers.large_house().gaps
        task = helpers.large_task().with_ends((0, 0), (0, 0))
        plan = {link: 2 for link in house.walked_links()}
        kind = kind_of(house, task, plan, len(widths) - 1)
        self.assertEqual(kind, ((2, 1), (2, 1), (2, 1)))
        self.assertEqual(kind_of(house, task, plan, 3), ((2, 1), (0, 0), (2, 1)))

    def test_a_task_that_does_not_fit(self):
        for house in [House([3], [1], []), House([1, 1], [1], [])]:
            helpers.refuse_wrong_tasks(self, house, lambda house, task: kind_of(house, task, {}, 0))

    def test_nothing_changes(self):
        house, task = House([1], [1], []), Task((0, 0), (1, 0), [])
        plan = {("over", 0, 0): 1}
        before = (helpers.house_state(house), helpers.task_state(task), dict(plan))
        kind_of(house, task, plan, 0)
        self.assertEqual((helpers.house_state(house), helpers.task_state(task), plan), before)


class Covers(unittest.TestCase):
    def test_all_pairs(self):
        for heights in (2, 3):
            everyone = list(helpers.all_kinds(heights))
            for one in everyone:
                for other in everyone:
                    self.assertIs(covers(one, other), covers_by_words(one, other), (one, other))

    def test_cases(self):
        both, low = ((2, 1), (2, 1)), ((2, 1), (0, 0))
        self.assertIs(covers(both, low), True)
        self.assertIs(covers(low, both), False)
        self.assertIs(covers(both, ((2, 1), (2, 2))), True)
        self.assertIs(covers(((2, 1), (2, 2)), both), False)
        self.assertIs(covers(((2, 1), (2, 2)), low), False)
        self.assertIs(covers(((1, 1), (1, 1)), both), False)
        self.assertIs(covers(((1, 1), (0, 0), (2, 1)), ((1, 1), (0, 0), (0, 0))), True)
        self.assertEqual([covers(NONE, NONE), covers(DONE, DONE), covers(NONE, DONE), covers(DONE, low),
                          covers(low, NONE)], [True, True, False, False, False])

    def test_a_covering_kind_leads_on_at_no_greater_sum(self):
        found = 0
        for house in helpers.small_houses():
            for task in helpers.small_tasks(house):
                for aisle in range(1, house.aisles):
                    rest = product_of(house, task, aisle, house.aisles - 1)
                    ends = {ahead: length for (ahead, behind), length in rest.items() if behind == DONE}
                    for other in ends:
                        for one in kinds_of(len(house.crosses()), odd_at(task, aisle - 1)):
                            if covers(one, other):
                                self.assertLessEqual(ends[one], ends[other])
                                found += one != other
        self.assertGreater(found, 100)


class Flipped(unittest.TestCase):
    def test_the_example(self):
        self.assertEqual(flipped_kind(((0, 0), (1, 1), (2, 2))), ((2, 1), (1, 2), (0, 0)))
        self.assertEqual([flipped_kind(NONE), flipped_kind(DONE)], [NONE, DONE])

    def test_all(self):
        for heights in (2, 3):
            everyone = helpers.all_kinds(heights)
            for kind in everyone:
                flipped = flipped_kind(kind)
                self.assertEqual(everyone[flipped], everyone[kind])
                self.assertEqual(flipped_kind(flipped), kind)
                if not isinstance(kind, str):
                    numbers, groups = zip(*reversed(kind))
                    self.assertEqual(flipped, helpers.named(numbers, groups))


if __name__ == "__main__":
    unittest.main()
