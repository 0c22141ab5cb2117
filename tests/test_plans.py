"""Points [3], [5], [33], [37] and [41] to [45]: plans, their faults, plans of walks, dead ends and sums."""

import random
import unittest
from itertools import product

import helpers
from pickaisle.errors import InvalidLink, InvalidPlan, InvalidWalk
from pickaisle.houses import House
from pickaisle.kinds import kind_of
from pickaisle.plans import added, is_plan, plan_fault, plan_length, plan_of_walk, trimmed
from pickaisle.rounds import is_round, walk_length
from pickaisle.tables import least_length, table
from pickaisle.tasks import Task

HOUSE = House([2], [3], [])
CLOSED = House([1, 1], [2, 1], [("over", 0, 1), ("up", 2, 0)])


def cases():
    """Very small houses with the small tasks and all plans of each."""
    return [(house, task, helpers.all_plans(house, task)) for house in helpers.plan_houses()
            for task in helpers.small_tasks(house)]


def fault_by_words(house, task, plan):
    """The fault of a dict, fault by fault in the order of the interface."""
    links = helpers.all_links(house)
    for word, wrong in [("link", lambda link: link not in links), ("closed", lambda link: link in house.closed),
                        ("number", lambda link: plan[link] not in (1, 2))]:
        for link in sorted(plan):
            if wrong(link):
                return (word, link)
    for place in helpers.all_places(house):
        whole = sum(number for link, number in plan.items() if place in links[link][:2])
        if whole % 2 != (place in helpers.odd_places(task)):
            return ("parity", place)
    touched = {place for link in plan for place in links[link][:2]} | {task.start, task.end, *task.picks}
    hung = helpers.hanging(touched, [links[link][:2] for link in plan])
    for place in sorted(touched):
        if place not in hung[task.start]:
            return ("apart", place)
    return None


def dead_ends(house, task, plan):
    """The dead ends of a plan, by the words of point [44]."""
    links = helpers.all_links(house)
    marks = {task.start, task.end, *task.picks}
    joined = {place: [link for link in plan if place in links[link][:2]] for place in helpers.all_places(house)}
    return [link for link, number in plan.items() if number == 2
            and any(place not in marks and joined[place] == [link] for place in links[link][:2])]


class Faults(unittest.TestCase):
    def told(self, house, task, plan, fault):
        kept = dict(plan)
        self.assertEqual(plan_fault(house, task, plan), fault)
        self.assertIs(is_plan(house, task, plan), fault is None)
        self.assertEqual(plan, kept)

    def test_the_example(self):
        plan = {("up", 0, 0): 2, ("up", 0, 1): 2}
        self.told(HOUSE, Task((0, 0), (0, 0), [(1, 1)]), plan, ("apart", (1, 1)))
        self.told(HOUSE, Task((0, 0), (0, 2), []), plan, ("parity", (0, 0)))
        self.told(HOUSE, Task((0, 0), (0, 0), [(0, 1)]), plan, None)

    def test_the_empty_plan(self):
        for house in helpers.small_houses():
            self.told(house, Task((0, 0), (0, 0), []), {}, None)
            self.told(house, Task((0, 0), (0, 0), [(0, 0)]), {}, None)
        self.told(HOUSE, Task((0, 0), (0, 0), [(0, 1), (1, 0)]), {}, ("apart", (0, 1)))
        self.told(HOUSE, Task((1, 0), (0, 2), []), {}, ("parity", (0, 2)))
        self.told(HOUSE, Task((1, 0), (1, 0), [(0, 2), (1, 1)]), {}, ("apart", (0, 2)))

    def test_what_is_no_link(self):
        task = Task((0, 0), (0, 0), [])
        for link in [("up", 0, 2), ("up", 2, 0), ("up", -1, 0), ("up", 0, -1), ("over", 0, 1), ("over", 1, 0),
                     ("over", -1, 0), ("", 0, 0), ("left", 0, 0), ("UP", 0, 0), ("over", 0, 10 ** 9)]:
            for number in [-1, 0, 1, 2, 3]:
                self.told(HOUSE, task, {link: number}, ("link", link))
                self.told(HOUSE, task, {("up", 0, 0): 2, link: number, ("up", 1, 1): 7}, ("link", link))

    def test_closed_links(self):
        task = Task((0, 0), (0, 0), [])
        for number in [-1, 0, 1, 2, 3]:
            self.told(CLOSED, task, {("over", 0, 1): number}, ("closed", ("over", 0, 1)))
            plan = {("up", 2, 0): number, ("over", 0, 0): 5}
            self.told(CLOSED, task, plan, ("closed", ("up", 2, 0)))

    def test_numbers(self):
        for number in [-2, -1, 0, 3, 4, 10 ** 20]:
            self.told(HOUSE, Task((0, 0), (0, 0), []), {("up", 0, 0): number}, ("number", ("up", 0, 0)))
            self.told(HOUSE, Task((0, 0), (0, 2), []), {("up", 0, 0): 1, ("up", 0, 1): number},
                      ("number", ("up", 0, 1)))

    def test_two_faults_at_once(self):
        task = Task((0, 0), (2, 2), [])
        plan = {("up", 9, 9): 0, ("up", 2, 0): 3, ("over", 0, 1): 1, ("over", 0, 0): 0, ("over", 7, 7): 1}
        self.told(CLOSED, task, plan, ("link", ("over", 7, 7)))
        del plan[("over", 7, 7)]
        self.told(CLOSED, task, plan, ("link", ("up", 9, 9)))
        del plan[("up", 9, 9)]
        self.told(CLOSED, task, plan, ("closed", ("over", 0, 1)))
        del plan[("over", 0, 1)]
        self.told(CLOSED, task, plan, ("closed", ("up", 2, 0)))
        del plan[("up", 2, 0)]
        self.told(CLOSED, task, plan | {("up", 1, 0): 0}, ("number", ("over", 0, 0)))
        self.told(CLOSED, task, {("up", 1, 0): 1, ("over", 1, 2): 2}, ("parity", (0, 0)))
        self.told(CLOSED, task.with_ends((0, 0), (0, 0)), {("up", 1, 0): 1, ("over", 1, 2): 2}, ("parity", (1, 0)))
        self.told(CLOSED, task.with_ends((0, 0), (0, 0)), {("up", 1, 0): 2, ("over", 1, 2): 2}, ("apart", (1, 0)))

    def test_all_dicts_of_very_small_houses(self):
        found = {}
        for house in helpers.plan_houses():
            links = list(helpers.all_links(house))
            for task in helpers.small_tasks(house)[::2]:
                for numbers in product((None, 1, 2), repeat=len(links)):
                    plan = {link: number for link, number in zip(links, numbers) if number}
                    fault = fault_by_words(house, task, plan)
                    self.assertEqual(plan_fault(house, task, plan), fault)
                    found[fault[0] if fault else None] = True
        self.assertEqual(set(found), {None, "closed", "parity", "apart"})

    def test_is_plan_by_words(self):
        for house, task, plans in cases():
            for plan in plans:
                self.assertIs(is_plan(house, task, plan), True)

    def test_at_the_bounds(self):
        house, task = helpers.large_house(), helpers.large_task().with_ends((0, 0), (0, 0))
        plan = {link: 2 for link in house.walked_links()}
        self.told(house, task, plan, None)
        self.told(house, task.with_ends((0, 0), (11, 80)), plan, ("parity", (0, 0)))
        plan[("up", 2, 41)] = 2
        self.told(house, task, plan, ("closed", ("up", 2, 41)))
        del plan[("up", 2, 41)]
        plan[("up", 11, 79)] = 1
        self.told(house, task, plan, ("parity", (11, 79)))


class Lengths(unittest.TestCase):
    def test_lengths(self):
        self.assertEqual(plan_length(HOUSE, {}), 0)
        self.assertEqual(plan_length(HOUSE, {("up", 0, 1): 2, ("over", 0, 2): 1, ("over", 0, 0): 2}), 2 + 3 + 6)
        self.assertEqual(plan_length(HOUSE, {("up", 0, 1): -2, ("over", 0, 2): 0, ("over", 0, 0): 5}), 13)
        self.assertEqual(plan_length(CLOSED, {("over", 0, 1): 3, ("up", 2, 0): 1, ("over", 1, 1): 1}), 8)
        for house, _, plans in cases():
            for plan in plans:
                self.assertEqual(plan_length(house, plan), helpers.plan_size(house, plan))

    def test_what_is_no_link(self):
        for link in [("up", 0, 2), ("over", 0, 1), ("over", 1, 0), ("", 0, 0), ("up", -1, 0)]:
            plan = {("up", 0, 0): 1, link: 0}
            with self.assertRaises(InvalidLink):
                plan_length(HOUSE, plan)
            self.assertEqual(plan, {("up", 0, 0): 1, link: 0})

    def test_at_the_bounds(self):
        house = helpers.large_house()
        plan = {link: 2 for link in house.walked_links()}
        overs = 3 * sum(house.gaps) - house.gaps[3] - house.gaps[8]
        self.assertEqual(plan_length(house, plan), 2 * (12 * 80 - 4 + overs))

    def test_least_plans_are_as_long_as_least_rounds(self):
        for house, task, plans in cases():
            lengths = [plan_length(house, plan) for plan in plans]
            self.assertEqual(min(lengths, default=None), helpers.least_round_length(house, task))
            self.assertEqual(min(lengths, default=None), least_length(house, task))


class PlanOfWalk(unittest.TestCase):
    def test_odd_and_even_times(self):
        for times in range(1, 9):
            walk = ([(0, 0), (0, 1)] * 5)[:times + 1]
            self.assertEqual(plan_of_walk(HOUSE, walk), {("up", 0, 0): 2 - times % 2})

    def test_the_example(self):
        plan = plan_of_walk(HOUSE, [(0, 0), (0, 1), (0, 2), (0, 1), (0, 0), (0, 1), (0, 0)])
        self.assertEqual(plan, {("up", 0, 0): 2, ("up", 0, 1): 2})

    def test_one_place(self):
        self.assertEqual(plan_of_walk(HOUSE, [(1, 1)]), {})

    def test_rounds_give_plans_that_are_no_longer(self):
        chance = random.Random(11)
        for house in helpers.small_houses():
            crosses = [place for place in house.places() if house.is_cross(place)]
            for many in range(60):
                walk = helpers.chance_walk(house, chance.choice(crosses), many, chance)
                plan = plan_of_walk(house, walk)
                self.assertEqual(plan, helpers.plan_by(house, walk))
                self.assertLessEqual(plan_length(house, plan), walk_length(house, walk))
                if house.is_cross(walk[-1]):
                    task = Task(walk[0], walk[-1], sorted(set(walk)))
                    self.assertIs(is_round(house, task, walk), True)
                    self.assertIs(is_plan(house, task, plan), True)

    def test_at_the_bounds(self):
        house, chance = helpers.large_house(), random.Random(3)
        walk = [(0, 0)]
        while len(walk) < 20000:
            walk.append(chance.choice(house.beside(walk[-1]))[0])
        while not house.is_cross(walk[-1]):
            walk.pop()
        plan = plan_of_walk(house, walk)
        self.assertIs(is_plan(house, Task((0, 0), walk[-1], walk[:1] + [walk[-1]] * (walk[-1] != (0, 0))), plan), True)
        self.assertLessEqual(plan_length(house, plan), walk_length(house, walk))

    def test_what_is_no_walk(self):
        for walk, number in [([], 0), ([(0, 3)], 0), ([(2, 0), (1, 0)], 0), ([(0, 0), (0, 0)], 1),
                             ([(0, 0), (0, 1), (1, 1)], 2), ([(0, 0), (0, -1)], 1), ([(1, 2), (2, 2)], 1),
                             ([(0, 0), (0, 1), (0, 2), (1, 2), (0, 0)], 4), ([(0, 0), (0, 2)], 1)]:
            kept = list(walk)
            with self.assertRaises(InvalidWalk) as caught:
                plan_of_walk(HOUSE, walk)
            self.assertEqual(caught.exception.number, number)
            self.assertEqual(walk, kept)
        with self.assertRaises(InvalidWalk) as caught:
            plan_of_walk(CLOSED, [(0, 0), (0, 1), (1, 1)])
        self.assertEqual(caught.exception.number, 2)

    def test_nothing_changes(self):
        walk = [(0, 0), (0, 1)]
        plan_of_walk(HOUSE, walk).clear()
        self.assertEqual(plan_of_walk(HOUSE, walk), {("up", 0, 0): 1})
        self.assertEqual(walk, [(0, 0), (0, 1)])


class Trimmed(unittest.TestCase):
    def test_dead_ends_one_behind_another(self):
        house = House([2, 2], [1, 1], [])
        plan = {("up", 0, height): 2 for height in range(4)} | {("over", 0, 4): 2, ("up", 1, 3): 2}
        kept = dict(plan)
        self.assertEqual(trimmed(house, Task((0, 0), (0, 0), []), plan), {})
        self.assertEqual(trimmed(house, Task((0, 0), (0, 0), [(0, 1)]), plan), {("up", 0, 0): 2})
        wanted = {("up", 0, height): 2 for height in range(4)} | {("over", 0, 4): 2}
        self.assertEqual(trimmed(house, Task((0, 0), (0, 0), [(0, 2), (1, 4)]), plan), wanted)
        self.assertEqual(trimmed(house, Task((1, 4), (1, 4), [(1, 3), (0, 3)]), plan),
                         {("over", 0, 4): 2, ("up", 0, 3): 2, ("up", 1, 3): 2})
        self.assertEqual(trimmed(house, Task((0, 4), (0, 4), []), plan), {})
        self.assertEqual(plan, kept)

    def test_circles_are_no_dead_ends(self):
        house = House([1], [1, 1], [])
        circle = {("up", 0, 0): 2, ("up", 1, 0): 2, ("over", 0, 0): 2, ("over", 0, 1): 2}
        self.assertEqual(trimmed(house, Task((0, 0), (0, 0), []), circle | {("over", 1, 0): 2}), circle)
        once = {link: 1 for link in circle}
        self.assertEqual(trimmed(house, Task((1, 1), (1, 1), []), once | {("over", 1, 0): 2, ("up", 2, 0): 2}), once)

    def test_all_plans_of_very_small_houses(self):
        chance = random.Random(2)
        changed = 0
        for house, task, plans in cases():
            for plan in plans:
                left = trimmed(house, task, plan)
                self.assertEqual(dead_ends(house, task, left), [])
                self.assertIs(is_plan(house, task, left), True)
                by_turns = dict(plan)
                while dead_ends(house, task, by_turns):
                    del by_turns[chance.choice(dead_ends(house, task, by_turns))]
                    self.assertIs(is_plan(house, task, by_turns), True)
                self.assertEqual(left, by_turns)
                changed += left != plan
        self.assertGreater(changed, 100)

    def test_least_plans_have_none(self):
        for house, task, plans in cases():
            for plan in plans:
                if plan_length(house, plan) == least_length(house, task):
                    self.assertEqual(trimmed(house, task, plan), plan)

    def test_at_the_bounds(self):
        house = House([40, 40], [40] * 11, [("over", 5, 0), ("over", 5, 40)])
        plan = {("up", aisle, height): 2 for aisle in range(12) for height in range(80)}
        plan.update({("over", gap, 80): 2 for gap in range(11)})
        task = Task((0, 80), (0, 80), [(11, 80 - step) for step in range(1, 61)])
        wanted = {("over", gap, 80): 2 for gap in range(11)} | {("up", 11, height): 2 for height in range(20, 80)}
        self.assertEqual(trimmed(house, task, plan), wanted)

    def test_what_is_no_plan(self):
        task = Task((0, 0), (0, 0), [(0, 1)])
        for plan in [{}, {("up", 0, 0): 1}, {("up", 0, 0): 2, ("up", 1, 0): 2}, {("up", 0, 0): 3}, {("up", 0, 5): 2},
                     {("up", 0, 0): 2, ("over", 0, 2): 0}]:
            kept = dict(plan)
            with self.assertRaises(InvalidPlan):
                trimmed(HOUSE, task, plan)
            self.assertEqual(plan, kept)

    def test_a_task_that_does_not_fit_comes_first(self):
        for house in [HOUSE, CLOSED]:
            for plan in [{}, {("up", 0, 0): 1}, {("up", 9, 9): 9}]:
                for told in [plan_fault, is_plan, trimmed]:
                    helpers.refuse_wrong_tasks(self, house, lambda house, task: told(house, task, plan))

    def test_new_each_time(self):
        plan = {("up", 0, 0): 2}
        task = Task((0, 0), (0, 0), [(0, 1)])
        trimmed(HOUSE, task, plan).clear()
        self.assertEqual(plan, {("up", 0, 0): 2})
        self.assertEqual(trimmed(HOUSE, task, plan), {("up", 0, 0): 2})


class Added(unittest.TestCase):
    def test_numbers(self):
        link, other = ("up", 0, 0), ("over", 0, 0)
        for one, two, whole in [(1, 1, 2), (1, 2, 1), (2, 1, 1), (2, 2, 2)]:
            self.assertEqual(added({link: one}, {link: two}), {link: whole})
        self.assertEqual(added({link: 1}, {other: 2}), {link: 1, other: 2})
        self.assertEqual(added({}, {link: 2}), {link: 2})
        self.assertEqual(added({link: 1}, {}), {link: 1})
        self.assertEqual(added({}, {}), {})

    def test_the_sum_of_two_plans(self):
        for house in helpers.plan_houses()[::2]:
            crosses = [place for place in house.places() if house.is_cross(place)][:3]
            tasks = [Task(one, other, picks) for one, other in product(crosses, repeat=2)
                     for picks in [house.places()[1:3], house.places()[-2:]]]
            plans = [helpers.all_plans(house, task)[::4] for task in tasks]
            for first, ahead in zip(tasks, plans):
                for second, behind in zip(tasks, plans):
                    if first.end == second.start:
                        both = Task(first.start, second.end, sorted(set(first.picks + second.picks)))
                        for plan, more in list(product(ahead, behind))[::7]:
                            kept = (dict(plan), dict(more))
                            self.assertIs(is_plan(house, both, added(plan, more)), True)
                            self.assertEqual((plan, more), kept)

    def test_new_each_time(self):
        plan = {("up", 0, 0): 2}
        added(plan, {}).clear()
        added({}, plan).clear()
        self.assertEqual(plan, {("up", 0, 0): 2})

    def test_at_the_bounds(self):
        house = House([40, 40], [40] * 11, [])
        plan = {link: 1 for link in house.walked_links()}
        self.assertEqual(added(plan, plan), {link: 2 for link in plan})
        self.assertEqual(added(added(plan, plan), plan), plan)


class Kinds(unittest.TestCase):
    def test_plans_with_the_same_kind_can_be_put_together(self):
        joined = 0
        for house, task, plans in cases():
            for gap in range(len(house.gaps)):
                kinds = {}
                for plan in plans:
                    kinds.setdefault(kind_of(house, task, plan, gap), []).append(plan)
                for together in kinds.values():
                    for one in together[:12]:
                        for other in together[-12:]:
                            ahead = {link: number for link, number in one.items() if link[1] <= gap}
                            behind = {link: number for link, number in other.items() if link[1] > gap}
                            self.assertIs(is_plan(house, task, ahead | behind), True)
                            joined += (ahead | behind) not in (one, other)
        self.assertGreater(joined, 100)

    def test_steps_between_the_kinds_of_a_plan_are_no_longer(self):
        for house, task, plans in cases():
            tables = [table(house, task, aisle) for aisle in range(house.aisles)]
            for plan in plans:
                kinds = ["none"] + [kind_of(house, task, plan, gap) for gap in range(len(house.gaps))] + ["done"]
                whole = sum(rows[pair] for rows, pair in zip(tables, zip(kinds, kinds[1:])))
                self.assertLessEqual(whole, plan_length(house, plan))


if __name__ == "__main__":
    unittest.main()
