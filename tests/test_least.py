"""Points [3], [5], [19], [43], [46] and [47]: least plans, their number, all of them, and told numbers."""

import unittest

import helpers
from pickaisle.errors import InvalidPlace, TooLarge, Unreachable
from pickaisle.euler import walk_of
from pickaisle.houses import House
from pickaisle.least import all_plans, count_plans, least_plan, told_numbers
from pickaisle.pieces import options_of
from pickaisle.plans import plan_fault, trimmed
from pickaisle.rounds import is_round
from pickaisle.tables import least_length
from pickaisle.tasks import Task
from pickaisle.ways import cut_off

CALLS = [least_plan, count_plans, all_plans, told_numbers]
# Parts of houses with two stretches of the length 2 and gaps of the width 1, and the picks of a round from (0, 0),
# with as many least plans as the keys tell.
PARTS = {
    25: (4, [(0, 3), (1, 0), (1, 1), (1, 3), (1, 4), (2, 3), (3, 0)]),
    80: (5, [(0, 2), (0, 4), (1, 2), (2, 1), (2, 3), (3, 1), (3, 2), (3, 3), (4, 0), (4, 1), (4, 3), (4, 4)]),
    23: (4, [(0, 4), (1, 0), (1, 1), (2, 2), (3, 0)]),
    87: (6, [(1, 4), (3, 2), (3, 4), (5, 0), (5, 4)]),
}


def joined_by_a_bridge(one, other):
    """The two parts beside one another, joined by one open link alone, so that the plans of both go together."""
    (left, first), (right, second) = PARTS[one], PARTS[other]
    closed = [("over", left - 1, 2), ("over", left - 1, 4)]
    house = House([2, 2], [1] * (left + right - 1), closed)
    return house, Task((0, 0), (0, 0), first + [(aisle + left, height) for aisle, height in second])


def in_order(plans):
    return sorted(plans, key=lambda plan: sorted(plan.items()))


def least_of_all(house, task):
    """All least plans in a very small house, from a search over all dicts."""
    plans = helpers.all_plans(house, task)
    least = min([helpers.plan_size(house, plan) for plan in plans], default=None)
    return in_order(plan for plan in plans if helpers.plan_size(house, plan) == least)


def cases():
    """The tasks of very small houses that have rounds, with all their least plans."""
    found = [(house, task, least_of_all(house, task)) for house in helpers.plan_houses()
             for task in helpers.small_tasks(house)]
    return [case for case in found if case[2]]


def wide_cases():
    """Tasks with rounds of small houses that are too large for a search over all dicts."""
    houses = helpers.small_houses() + [House([3, 2], [2, 1, 2], [("up", 1, 3), ("over", 2, 0)])]
    found = [(house, task) for house in houses for task in helpers.small_tasks(house)]
    return [(house, task) for house, task in found if cut_off(house, task) is None]


class AgainstAllPlans(unittest.TestCase):
    def test_all_of_them(self):
        many = {}
        for house, task, plans in cases():
            self.assertEqual(all_plans(house, task), plans)
            self.assertEqual(count_plans(house, task), len(plans))
            self.assertIn(least_plan(house, task), plans)
            many[len(plans)] = True
        self.assertTrue({1, 2, 3, 4} <= set(many), many)

    def test_told_numbers(self):
        seen = {}
        for house, task, plans in cases():
            links = [link for link in helpers.all_links(house) if link not in house.closed]
            wanted = {link: sorted({plan.get(link, 0) for plan in plans}) for link in links}
            self.assertEqual(told_numbers(house, task), wanted)
            for numbers in wanted.values():
                seen[tuple(numbers)] = True
        self.assertTrue({(0,), (1,), (2,), (0, 1), (1, 2), (0, 1, 2)} <= set(seen), seen)

    def test_no_plan_and_no_round(self):
        for closed in [[("over", 0, 0), ("over", 0, 2)], [("up", 0, 0), ("up", 0, 1)]]:
            house = House([2], [1], closed)
            for task in [Task((0, 0), (1, 0), []), Task((0, 0), (0, 2), [(1, 1)]), Task((1, 0), (1, 2), [(0, 1)])]:
                self.assertEqual(least_of_all(house, task) == [], cut_off(house, task) is not None)
                if least_of_all(house, task) == []:
                    for call in CALLS:
                        self.assertRaises(Unreachable, call, house, task)
                else:
                    self.assertEqual(all_plans(house, task), least_of_all(house, task))


class Wider(unittest.TestCase):
    def test_plans_of_the_least_length(self):
        for house, task in wide_cases():
            plans = all_plans(house, task)
            self.assertEqual(plans, in_order(plans))
            self.assertEqual(count_plans(house, task), len({tuple(sorted(plan.items())) for plan in plans}))
            self.assertEqual(len(plans), count_plans(house, task))
            self.assertIn(least_plan(house, task), plans)
            length = helpers.least_round_length(house, task)
            for plan in plans:
                self.assertIsNone(plan_fault(house, task, plan))
                self.assertEqual(helpers.plan_size(house, plan), length)
                self.assertEqual(trimmed(house, task, plan), plan)

    def test_told_numbers_are_those_of_all_plans(self):
        for house, task in wide_cases():
            plans = all_plans(house, task)
            wanted = {link: sorted({plan.get(link, 0) for plan in plans}) for link in house.walked_links()}
            self.assertEqual(told_numbers(house, task), wanted)

    def test_a_walk_by_a_least_plan_is_a_least_round(self):
        for house, task in wide_cases():
            walk = walk_of(house, task, least_plan(house, task))
            self.assertIs(is_round(house, task, walk), True)
            self.assertEqual(helpers.plan_size(house, helpers.times_of(house, walk)), least_length(house, task))

    def test_each_least_plan_has_an_option_in_each_stretch(self):
        house, task = House([3, 2], [2, 1], [("up", 1, 3)]), Task((0, 0), (2, 5), [(0, 2), (1, 1), (1, 4), (2, 4)])
        for plan in all_plans(house, task):
            for aisle in range(3):
                for stretch, ends in enumerate([(0, 3), (3, 5)]):
                    numbers = [plan.get(("up", aisle, height), 0) for height in range(*ends)]
                    rows = []
                    for _, low, _, joins, left_out in options_of(house, task, aisle, stretch):
                        left = [] if joins else range(*left_out)
                        rows.append([0 if height in left else low if joins else 2 for height in range(*ends)])
                    self.assertIn(numbers, rows)


class Cases(unittest.TestCase):
    def test_nothing_to_walk(self):
        for house in [House([1], [], []), House([3, 2], [4], [("up", 1, 1)]), House([40], [40] * 11, [])]:
            for picks in [[], [(0, house.top)]]:
                task = Task((0, house.top), (0, house.top), picks)
                self.assertEqual([least_plan(house, task), count_plans(house, task)], [{}, 1])
                self.assertEqual(all_plans(house, task), [{}])
                self.assertEqual(told_numbers(house, task), {link: [0] for link in house.walked_links()})

    def test_one_aisle(self):
        house = House([2, 1], [], [])
        plan = {("up", 0, 0): 1, ("up", 0, 1): 1, ("up", 0, 2): 2}
        task = Task((0, 0), (0, 2), [(0, 3)])
        self.assertEqual(all_plans(house, task), [plan])
        self.assertEqual(all_plans(house, task.turned()), [plan])
        self.assertEqual(told_numbers(house, task), {link: [number] for link, number in plan.items()})

    def test_all_ways_up_and_over(self):
        # A least walk goes right and up alone: through each stretch in some aisle, and never back to the left.
        house = House([1, 1], [1] * 11, [])
        self.assertEqual(count_plans(house, Task((0, 0), (11, 2), [])), 13 * 12 // 2)
        self.assertEqual(count_plans(House([1], [1] * 11, []), Task((0, 0), (11, 1), [])), 12)
        told = told_numbers(house, Task((0, 0), (11, 2), []))
        self.assertEqual(told[("over", 3, 1)], [0, 1])
        self.assertEqual(told[("up", 0, 1)], [0, 1])

    def test_the_ways_round_a_square(self):
        house = House([2], [2], [])
        plans = all_plans(house, Task((0, 0), (1, 2), []))
        self.assertEqual(plans, [{("over", 0, 0): 1, ("up", 1, 0): 1, ("up", 1, 1): 1},
                                 {("over", 0, 2): 1, ("up", 0, 0): 1, ("up", 0, 1): 1}])

    def test_order_of_plans(self):
        house = House([3], [], [])
        plans = all_plans(House([1], [1], []), Task((0, 0), (0, 0), [(1, 1)]))
        self.assertEqual([sorted(plan.items()) for plan in plans],
                         sorted(sorted(plan.items()) for plan in plans))
        self.assertEqual(len(plans), 3)
        self.assertEqual(all_plans(house, Task((0, 3), (0, 3), [(0, 1)])), [{("up", 0, 1): 2, ("up", 0, 2): 2}])

    def test_a_closed_link_is_not_told(self):
        house = House([1], [1], [("over", 0, 1)])
        told = told_numbers(house, Task((0, 0), (0, 0), [(1, 1)]))
        self.assertEqual(told, {("over", 0, 0): [2], ("up", 0, 0): [0], ("up", 1, 0): [2]})


class Many(unittest.TestCase):
    def test_exactly_2000(self):
        house, task = joined_by_a_bridge(25, 80)
        self.assertEqual(count_plans(house, task), 2000)
        plans = all_plans(house, task)
        self.assertEqual(len({tuple(sorted(plan.items())) for plan in plans}), 2000)
        self.assertEqual(plans, in_order(plans))
        for plan in plans[::100]:
            self.assertIs(helpers.is_plan(house, task, plan), True)
            self.assertEqual(helpers.plan_size(house, plan), least_length(house, task))

    def test_more_than_2000(self):
        house, task = joined_by_a_bridge(23, 87)
        before = (helpers.house_state(house), helpers.task_state(task))
        self.assertEqual(count_plans(house, task), 2001)
        with self.assertRaises(TooLarge):
            all_plans(house, task)
        self.assertEqual((helpers.house_state(house), helpers.task_state(task)), before)
        self.assertEqual(helpers.plan_size(house, least_plan(house, task)), least_length(house, task))
        self.assertEqual(len(told_numbers(house, task)), len(house.walked_links()))

    def test_each_part_alone(self):
        for many, (aisles, picks) in PARTS.items():
            house, task = House([2, 2], [1] * (aisles - 1), []), Task((0, 0), (0, 0), picks)
            self.assertEqual(len(all_plans(house, task)), many)

    def test_far_more(self):
        house = House([40], [1] * 11, [])
        picks = [(aisle, height) for aisle in range(12) for height in [8, 16, 24, 32, 40]]
        self.assertGreater(count_plans(house, Task((0, 0), (0, 0), picks)), 10)
        lattice = House([2, 2], [1] * 11, [])
        task = Task((0, 4), (0, 0), [(aisle, height) for aisle in range(12) for height in (0, 2, 4)])
        self.assertGreater(count_plans(lattice, task), 10 ** 4)
        with self.assertRaises(TooLarge):
            all_plans(lattice, task)


class Bounds(unittest.TestCase):
    def test_large(self):
        house, task = helpers.large_house(), helpers.large_task()
        length = least_length(house, task)
        plans = all_plans(house, task)
        self.assertEqual(len(plans), count_plans(house, task))
        for plan in plans + [least_plan(house, task)]:
            self.assertIsNone(plan_fault(house, task, plan))
            self.assertEqual(helpers.plan_size(house, plan), length)
        wanted = {link: sorted({plan.get(link, 0) for plan in plans}) for link in house.walked_links()}
        self.assertEqual(told_numbers(house, task), wanted)

    def test_all_picks_in_one_aisle(self):
        house = House([40, 40], [40] * 11, [("up", 6, 70), ("over", 2, 0)])
        heights = list(range(1, 40)) + list(range(41, 62))
        task = Task((3, 0), (3, 0), [(6, height) for height in heights])
        plan = least_plan(house, task)
        self.assertIsNone(plan_fault(house, task, plan))
        self.assertEqual(helpers.plan_size(house, plan), least_length(house, task))
        self.assertEqual(len(all_plans(house, task)), count_plans(house, task))


class Wrong(unittest.TestCase):
    def test_a_task_that_does_not_fit(self):
        closed = House([3], [1], [("over", 0, 0), ("over", 0, 3)])
        for house in [House([3], [1], []), House([2, 2], [1, 1], [("up", 0, 1)]), closed]:
            for call in CALLS:
                helpers.refuse_wrong_tasks(self, house, call)

    def test_no_round(self):
        house = House([3], [1, 1], [("over", 0, 0), ("over", 0, 3), ("up", 1, 0), ("up", 1, 2)])
        for task, place in [(Task((0, 0), (1, 3), [(1, 1), (0, 1)]), (1, 3)), (Task((0, 0), (0, 3), [(1, 0)]), (1, 0)),
                            (Task((2, 0), (1, 3), [(2, 1), (1, 1), (0, 2)]), (0, 2)),
                            (Task((1, 0), (2, 3), [(1, 2), (1, 1)]), (1, 1))]:
            before = (helpers.house_state(house), helpers.task_state(task))
            self.assertEqual(cut_off(house, task), place)
            for call in CALLS:
                with self.assertRaises(Unreachable) as caught:
                    call(house, task)
                self.assertEqual(caught.exception.place, place)
            self.assertEqual((helpers.house_state(house), helpers.task_state(task)), before)

    def test_no_round_and_no_fit(self):
        house = House([3], [1], [("over", 0, 0), ("over", 0, 3)])
        for call in CALLS:
            with self.assertRaises(InvalidPlace) as caught:
                call(house, Task((0, 0), (1, 0), [(1, 4)]))
            self.assertEqual(caught.exception.place, (1, 4))

    def test_new_and_nothing_changed(self):
        house, task = House([2, 1], [1], [("up", 1, 0)]), Task((0, 0), (1, 3), [(0, 1), (1, 1)])
        for call in [least_plan, all_plans, told_numbers]:
            helpers.assert_new_and_nothing_changed(self, house, task, call)


if __name__ == "__main__":
    unittest.main()
