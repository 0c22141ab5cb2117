"""Points [3], [5], [43] and [52]: walks by plans, and walks told in short."""

import random
import unittest
from itertools import product

import helpers
from pickaisle.errors import InvalidPlan
from pickaisle.euler import is_walk_of, runs_of, walk_by, walk_of
from pickaisle.houses import House
from pickaisle.plans import plan_length, plan_of_walk
from pickaisle.rounds import is_round, walk_fault, walk_length
from pickaisle.tasks import Task

HOUSE = House([2], [3], [])


class WalkOf(unittest.TestCase):
    def is_right(self, house, task, plan):
        kept = dict(plan)
        walk = walk_of(house, task, plan)
        self.assertEqual(plan, kept)
        self.assertIsNone(walk_fault(house, walk))
        self.assertEqual((walk[0], walk[-1]), (task.start, task.end))
        self.assertEqual(helpers.times_of(house, walk), plan)
        self.assertIs(is_round(house, task, walk), True)
        self.assertIs(is_walk_of(house, task, plan, walk), True)
        self.assertEqual(walk_length(house, walk), plan_length(house, plan))

    def test_all_plans_of_very_small_houses(self):
        for house in helpers.plan_houses():
            for task in helpers.small_tasks(house):
                for plan in helpers.all_plans(house, task):
                    self.is_right(house, task, plan)

    def test_plans_of_chance_walks(self):
        chance = random.Random(1)
        for house in helpers.small_houses():
            crosses = [place for place in house.places() if house.is_cross(place)]
            for many in range(0, 80, 4):
                walk = helpers.chance_walk(house, chance.choice(crosses), many, chance)
                if house.is_cross(walk[-1]):
                    self.is_right(house, Task(walk[0], walk[-1], sorted(set(walk))), plan_of_walk(house, walk))

    def test_the_empty_plan(self):
        self.assertEqual(walk_of(HOUSE, Task((1, 2), (1, 2), []), {}), [(1, 2)])
        self.assertEqual(walk_of(HOUSE, Task((1, 2), (1, 2), [(1, 2)]), {}), [(1, 2)])

    def test_start_and_end_two_places(self):
        plan = {("up", 0, 0): 1, ("up", 0, 1): 1}
        self.assertEqual(walk_of(HOUSE, Task((0, 0), (0, 2), []), plan), [(0, 0), (0, 1), (0, 2)])
        self.assertEqual(walk_of(HOUSE, Task((0, 2), (0, 0), [(0, 1)]), plan), [(0, 2), (0, 1), (0, 0)])

    def test_at_the_bounds(self):
        house = helpers.large_house()
        plan = {link: 2 for link in house.walked_links()}
        task = helpers.large_task().with_ends((11, 0), (11, 0))
        walk = walk_of(house, task, plan)
        self.assertEqual(len(walk), 2 * len(plan) + 1)
        self.assertIs(is_walk_of(house, task, plan, walk), True)
        self.assertIs(is_round(house, task, walk), True)
        self.assertEqual(walk_length(house, walk), plan_length(house, plan))

    def test_what_is_no_plan(self):
        task = Task((0, 0), (0, 0), [(0, 1)])
        for plan in [{}, {("up", 0, 0): 1}, {("up", 0, 0): 2, ("up", 1, 0): 2}, {("up", 0, 0): 4}, {("up", 0, 5): 2},
                     {("up", 0, 0): 2, ("over", 0, 2): 0}]:
            kept = dict(plan)
            with self.assertRaises(InvalidPlan):
                walk_of(HOUSE, task, plan)
            self.assertEqual(plan, kept)
        with self.assertRaises(InvalidPlan):
            walk_of(House([2], [3], [("up", 0, 0)]), task, {("up", 0, 0): 2})

    def test_a_task_that_does_not_fit_comes_first(self):
        for house in [HOUSE, House([1, 2], [1], [("over", 0, 0)])]:
            for plan in [{}, {("up", 0, 0): 1}, {("up", 9, 9): 9}]:
                helpers.refuse_wrong_tasks(self, house, lambda house, task: walk_of(house, task, plan))
                for walk in [[], [(0, 0)], [(9, 9)]]:
                    helpers.refuse_wrong_tasks(self, house, lambda house, task: is_walk_of(house, task, plan, walk))

    def test_new_each_time(self):
        task, plan = Task((0, 0), (0, 0), [(0, 1)]), {("up", 0, 0): 2}
        helpers.assert_new_and_nothing_changed(self, HOUSE, task, lambda house, task: walk_of(house, task, plan))
        self.assertEqual(plan, {("up", 0, 0): 2})


class IsWalkOf(unittest.TestCase):
    def told(self, house, task, plan, walk, wanted):
        kept = (dict(plan), list(walk))
        self.assertIs(is_walk_of(house, task, plan, walk), wanted)
        self.assertEqual((plan, walk), kept)

    def test_all_lists_of_places(self):
        house = House([1], [1], [])
        places = house.places() + [(0, 2)]
        plans = [{}, {("up", 0, 0): 1}, {("up", 0, 0): 2}, {("up", 0, 0): 1, ("over", 0, 1): 1}, {("up", 0, 0): 3}]
        for start, end in [((0, 0), (0, 0)), ((0, 0), (0, 1)), ((0, 0), (1, 1))]:
            for many in range(5):
                for walk in product(places, repeat=many):
                    fine = walk_fault(house, list(walk)) is None and (walk[0], walk[-1]) == (start, end)
                    for plan in plans:
                        wanted = fine and helpers.times_of(house, walk) == plan
                        self.assertIs(is_walk_of(house, Task(start, end, []), plan, list(walk)), wanted)

    def test_any_numbers(self):
        task = Task((0, 0), (0, 0), [])
        for times in range(1, 6):
            walk = [(0, 0), (0, 1)] * times + [(0, 0)]
            for number in range(-1, 12):
                self.told(HOUSE, task, {("up", 0, 0): number}, walk, number == 2 * times)
        self.told(HOUSE, task, {("up", 0, 0): 0, ("up", 1, 1): 0}, [(0, 0)], True)
        self.told(HOUSE, task, {("up", 1, 1): -1}, [(0, 0)], False)
        self.told(HOUSE, task, {("up", 1, 1): 1}, [(0, 0)], False)

    def test_picks_need_not_be_passed(self):
        task = Task((0, 0), (0, 2), [(1, 1)])
        self.told(HOUSE, task, {("up", 0, 0): 1, ("up", 0, 1): 1}, [(0, 0), (0, 1), (0, 2)], True)

    def test_ends(self):
        plan = {("up", 0, 0): 1, ("up", 0, 1): 1}
        walk = [(0, 0), (0, 1), (0, 2)]
        self.told(HOUSE, Task((0, 0), (0, 2), []), plan, walk, True)
        self.told(HOUSE, Task((0, 2), (0, 0), []), plan, walk, False)
        self.told(HOUSE, Task((0, 0), (0, 0), []), plan, walk, False)
        self.told(HOUSE, Task((0, 2), (0, 2), []), plan, walk, False)
        self.told(HOUSE, Task((0, 0), (0, 0), []), {}, [], False)

    def test_keys_that_are_no_links(self):
        task, walk = Task((0, 0), (0, 2), []), [(0, 0), (0, 1), (0, 2)]
        plan = {("up", 0, 0): 1, ("up", 0, 1): 1}
        for link in [("up", 0, 2), ("up", 5, 0), ("over", 0, 1), ("", 0, 0), ("up", -1, 0)]:
            self.told(HOUSE, task, plan | {link: 0}, walk, True)
            for number in [-1, 1, 2]:
                self.told(HOUSE, task, plan | {link: number}, walk, False)

    def test_closed_links(self):
        house = House([2], [3], [("up", 1, 0), ("over", 0, 0)])
        task, walk = Task((0, 0), (0, 2), []), [(0, 0), (0, 1), (0, 2)]
        plan = {("up", 0, 0): 1, ("up", 0, 1): 1}
        for link in house.closed:
            self.told(house, task, plan | {link: 0}, walk, True)
            self.told(house, task, plan | {link: 1}, walk, False)
        self.told(house, Task((0, 0), (1, 0), []), {("over", 0, 0): 1}, [(0, 0), (1, 0)], False)

    def test_what_is_no_walk(self):
        task = Task((0, 0), (0, 2), [])
        for walk in [[(0, 0), (0, 2)], [(0, 0), (0, 1), (0, 1), (0, 2)], [(0, 0), (-1, 0), (0, 0), (0, 1), (0, 2)],
                     [(0, 0), (0, 1), (0, 2), (0, 3), (0, 2)]]:
            self.told(HOUSE, task, {("up", 0, 0): 1, ("up", 0, 1): 1}, walk, False)

    def test_one_more_or_less_at_the_bounds(self):
        house = helpers.large_house()
        plan = {link: 2 for link in house.walked_links()}
        task = helpers.large_task().with_ends((11, 0), (11, 0))
        walk = walk_of(house, task, plan)
        self.told(house, task, plan, walk + walk[-2:-1] + walk[-1:], False)
        self.told(house, task, plan, walk[:-1], False)
        self.told(house, task, {link: plan[link] for link in list(plan)[1:]}, walk, False)
        self.told(house, task, plan | {("up", 2, 41): 2}, walk, False)


class Runs(unittest.TestCase):
    def test_cases(self):
        self.assertEqual(runs_of([(3, 3)]), [])
        self.assertEqual(runs_of([(0, 0), (0, 1), (0, 2), (1, 2), (1, 1), (1, 0), (0, 0)]),
                         [("up", 2), ("right", 1), ("down", 2), ("left", 1)])
        self.assertEqual(runs_of([(0, 0), (0, 1), (0, 0), (0, 1)]), [("up", 1), ("down", 1), ("up", 1)])
        self.assertEqual(runs_of([(5, -2), (4, -2), (3, -2), (2, -2)]), [("left", 3)])

    def test_no_house_is_needed(self):
        self.assertEqual(runs_of([(-1000, -5), (-999, -5), (-999, -6)]), [("right", 1), ("down", 1)])
        self.assertEqual(runs_of([(0, 7), (1, 7), (2, 7)]), [("right", 2)])

    def test_they_undo_each_other(self):
        chance = random.Random(4)
        words = {"up": (0, 1), "down": (0, -1), "right": (1, 0), "left": (-1, 0)}
        for many in range(60):
            walk = [(chance.randrange(-9, 9), chance.randrange(-9, 9))]
            for _ in range(many):
                right, up = chance.choice(list(words.values()))
                walk.append((walk[-1][0] + right, walk[-1][1] + up))
            kept = list(walk)
            runs = runs_of(walk)
            self.assertEqual(walk_by(walk[0], runs), walk)
            self.assertEqual(walk, kept)
            self.assertTrue(all(number >= 1 and word in words for word, number in runs))
            self.assertTrue(all(one[0] != other[0] for one, other in zip(runs, runs[1:])))
            self.assertEqual(runs_of(walk_by(walk[0], runs)), runs)

    def test_walk_by(self):
        self.assertEqual(walk_by((2, 3), []), [(2, 3)])
        self.assertEqual(walk_by((2, 3), [("up", 2), ("right", 1), ("down", 1), ("left", 2)]),
                         [(2, 3), (2, 4), (2, 5), (3, 5), (3, 4), (2, 4), (1, 4)])
        self.assertEqual(walk_by((0, 0), [("up", 1), ("up", 2), ("left", 1)]),
                         [(0, 0), (0, 1), (0, 2), (0, 3), (-1, 3)])
        self.assertEqual(runs_of(walk_by((0, 0), [("up", 1), ("up", 2)])), [("up", 3)])

    def test_at_the_bounds(self):
        runs = []
        for aisle in range(12):
            runs += [("down" if aisle % 2 else "up", 80)] + [("right", 1)] * (aisle < 11)
        walk = walk_by((0, 0), runs)
        self.assertEqual((len(walk), walk[-1]), (12 * 80 + 12, (11, 0)))
        self.assertEqual(runs_of(walk), runs)
        house = helpers.large_house()
        plan = {link: 2 for link in house.walked_links()}
        walk = walk_of(house, Task((0, 0), (0, 0), []), plan)
        self.assertEqual(walk_by((0, 0), runs_of(walk)), walk)

    def test_new_each_time(self):
        walk, runs = [(0, 0), (0, 1)], [("up", 1)]
        runs_of(walk).clear()
        walk_by((0, 0), runs).clear()
        self.assertEqual((walk, runs), ([(0, 0), (0, 1)], [("up", 1)]))
        self.assertEqual((runs_of(walk), walk_by((0, 0), runs)), (runs, walk))


if __name__ == "__main__":
    unittest.main()
