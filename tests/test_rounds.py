"""Points [3], [13] and [20] to [22]: walks, rounds and the nearest round."""

import unittest
from itertools import product

import helpers
from pickaisle.errors import InvalidPlace, InvalidWalk, Unreachable
from pickaisle.houses import House
from pickaisle.rounds import (is_round, joined_walks, missed, nearest_round, turned_walk, walk_fault, walk_length)
from pickaisle.tasks import Task
from pickaisle.ways import cut_off, least_way

LITTLE = [House([1], [1], []), House([1], [2], [("over", 0, 1)]), House([2], [], [("up", 0, 1)]), House([1, 1], [], [])]


def fault_by_steps(house, walk):
    """The fault, from the links of the house one by one."""
    table = helpers.step_table(house)
    for number, place in enumerate(walk):
        if place not in table:
            return number
        if number > 0 and place not in [other for other, _ in table[walk[number - 1]]]:
            return number
    return None if walk else 0


def lists_of_places(house, most):
    """All lists of up to so many tuples: the places of the house, and some that are none."""
    tried = helpers.all_places(house) + [(0, -1), (9, 0)]
    return [list(walk) for many in range(most + 1) for walk in product(tried, repeat=many)]


class Walks(unittest.TestCase):
    def test_fault_and_length_of_all_short_lists(self):
        for house in LITTLE:
            table = helpers.step_table(house)
            for walk in lists_of_places(house, 4):
                fault = fault_by_steps(house, walk)
                self.assertEqual(walk_fault(house, walk), fault, walk)
                if fault is None:
                    length = sum(dict(table[one])[other] for one, other in zip(walk, walk[1:]))
                    self.assertEqual(walk_length(house, walk), length, walk)
                else:
                    with self.assertRaises(InvalidWalk) as caught:
                        walk_length(house, walk)
                    self.assertEqual(caught.exception.number, fault, walk)

    def test_first_fault_of_several(self):
        house = House([3], [2], [("up", 0, 1)])
        self.assertEqual(walk_fault(house, []), 0)
        self.assertEqual(walk_fault(house, [(7, 7), (8, 8)]), 0)
        self.assertEqual(walk_fault(house, [(0, 0), (0, 1), (0, 2), (9, 9)]), 2)
        self.assertEqual(walk_fault(house, [(0, 0), (0, 0)]), 1)
        self.assertEqual(walk_fault(house, [(0, 1), (1, 1)]), 1)
        self.assertEqual(walk_fault(house, [(0, 0), (0, 1), (9, 9), (0, 0)]), 2)
        self.assertIsNone(walk_fault(house, [(0, 0)]))

    def test_lengths(self):
        house = House([1, 1], [7, 5], [])
        self.assertEqual(walk_length(house, [(0, 1)]), 0)
        self.assertEqual(walk_length(house, [(0, 0), (0, 1), (1, 1), (2, 1), (1, 1), (1, 2)]), 19)


class Rounds(unittest.TestCase):
    def test_missed(self):
        task = Task((0, 0), (0, 2), [(2, 1), (0, 1), (1, 1)])
        self.assertEqual(missed(task, []), [(0, 1), (1, 1), (2, 1)])
        self.assertEqual(missed(task, [(1, 1), (9, 9), (1, 1)]), [(0, 1), (2, 1)])
        self.assertEqual(missed(task, [(2, 1), (1, 1), (0, 1)]), [])
        self.assertEqual(missed(Task((0, 0), (0, 0), []), []), [])

    def test_is_round_for_all_short_lists(self):
        for house in LITTLE:
            for task in helpers.small_tasks(house):
                for walk in lists_of_places(house, 4):
                    told = fault_by_steps(house, walk) is None and walk[0] == task.start and walk[-1] == task.end
                    told = told and set(task.picks) <= set(walk)
                    self.assertIs(is_round(house, task, walk), told, walk)

    def test_first_and_last_place_are_passed(self):
        house = House([1], [1], [])
        task = Task((0, 0), (0, 1), [(0, 0), (0, 1)])
        self.assertIs(is_round(house, task, [(0, 0), (0, 1)]), True)
        self.assertIs(is_round(house, Task((0, 0), (0, 0), [(0, 0)]), [(0, 0)]), True)
        self.assertIs(is_round(house, task, [(0, 1), (0, 0)]), False)
        self.assertIs(is_round(house, task, []), False)

    def test_a_task_that_does_not_fit(self):
        house = House([2], [1], [("up", 0, 0), ("up", 1, 0)])
        for task, wrong in [(Task((0, 1), (9, 9), []), (0, 1)), (Task((0, 0), (0, 2), [(8, 8)]), (8, 8))]:
            for call in [lambda: is_round(house, task, []), lambda: is_round(house, task, [(0, 0), (9, 9)]),
                         lambda: nearest_round(house, task)]:
                with self.assertRaises(InvalidPlace) as caught:
                    call()
                self.assertEqual(caught.exception.place, wrong)


class TurnedAndJoined(unittest.TestCase):
    def test_turned(self):
        walk = [(0, 0), (0, 1), (1, 1)]
        self.assertEqual(turned_walk(walk), [(1, 1), (0, 1), (0, 0)])
        self.assertEqual(walk, [(0, 0), (0, 1), (1, 1)])
        self.assertEqual(turned_walk([(4, 4)]), [(4, 4)])

    def test_turned_rounds(self):
        for house in helpers.small_houses():
            for task in helpers.small_tasks(house):
                if cut_off(house, task) is None:
                    walk = nearest_round(house, task)
                    self.assertIs(is_round(house, task.turned(), turned_walk(walk)), True)
                    self.assertEqual(walk_length(house, turned_walk(walk)), walk_length(house, walk))

    def test_joined(self):
        first, second = [(0, 0), (0, 1)], [(0, 1), (1, 1), (0, 1)]
        self.assertEqual(joined_walks(first, second), [(0, 0), (0, 1), (1, 1), (0, 1)])
        self.assertEqual((first, second), ([(0, 0), (0, 1)], [(0, 1), (1, 1), (0, 1)]))
        self.assertEqual(joined_walks([(2, 2)], [(2, 2)]), [(2, 2)])

    def test_joined_where_they_do_not_meet(self):
        for first, second in [([(0, 0), (0, 1)], [(0, 0), (0, 1)]), ([(0, 0)], [(0, 1)]),
                              ([(0, 0), (0, 1), (0, 2)], [(1, 2)])]:
            with self.assertRaises(InvalidWalk) as caught:
                joined_walks(first, second)
            self.assertEqual(caught.exception.number, len(first))

    def test_what_is_returned_is_new(self):
        for one, other in [([(0, 0)], [(0, 0)]), ([(0, 0), (0, 1)], [(0, 1)]), ([(0, 0)], [(0, 0), (0, 1)])]:
            before = (list(one), list(other))
            joined_walks(one, other).append((5, 5))
            turned_walk(one).append((5, 5))
            self.assertEqual((one, other), before)


class NearestRound(unittest.TestCase):
    def by_all_walks(self, house, task):
        """The nearest round, by going over all walks of the house at each place."""
        walk = [task.start]
        while [pick for pick in task.picks if pick not in walk]:
            best = helpers.least_ways_from(house, walk[-1])
            left = [pick for pick in task.picks if pick not in walk]
            least = min(best[pick][0] for pick in left)
            walk += best[[pick for pick in left if best[pick][0] == least][0]][1][1:]
        return walk + helpers.least_ways_from(house, walk[-1])[task.end][1][1:]

    def test_small_houses(self):
        tried = 0
        for house in helpers.small_houses():
            for task in helpers.small_tasks(house):
                if cut_off(house, task) is None:
                    walk = nearest_round(house, task)
                    self.assertEqual(walk, self.by_all_walks(house, task))
                    self.assertIs(is_round(house, task, walk), True)
                    tried += 1
        self.assertGreater(tried, 40)

    def test_no_picks(self):
        house = House([2], [1, 1], [])
        self.assertEqual(nearest_round(house, Task((0, 0), (0, 0), [])), [(0, 0)])
        self.assertEqual(nearest_round(house, Task((0, 0), (0, 0), [(0, 0)])), [(0, 0)])
        self.assertEqual(nearest_round(house, Task((0, 0), (2, 2), [])), least_way(house, (0, 0), (2, 2)))

    def test_first_of_several_with_the_same_distance(self):
        house = House([4], [2], [])
        self.assertEqual(nearest_round(house, Task((0, 0), (0, 0), [(1, 0), (0, 2)])),
                         [(0, 0), (0, 1), (0, 2), (0, 1), (0, 0), (1, 0), (0, 0)])
        self.assertEqual(nearest_round(house, Task((1, 0), (1, 0), [(1, 2), (0, 0)])),
                         [(1, 0), (0, 0), (1, 0), (1, 1), (1, 2), (1, 1), (1, 0)])

    def test_picks_on_the_way_count_as_passed(self):
        house = House([3], [1, 1], [])
        task = Task((1, 0), (1, 3), [(1, 0), (1, 1), (1, 2), (0, 1)])
        self.assertEqual(nearest_round(house, task),
                         [(1, 0), (1, 1), (1, 2), (1, 1), (1, 0), (0, 0), (0, 1), (0, 2), (0, 3), (1, 3)])

    def test_unreachable(self):
        house = House([4], [1], [("up", 0, 1), ("up", 1, 1)])
        for task in [Task((0, 0), (0, 4), [(0, 3)]), Task((0, 0), (0, 0), [(1, 3), (0, 3), (0, 1)]),
                     Task((1, 4), (0, 4), [(0, 0)])]:
            before = (helpers.house_state(house), helpers.task_state(task))
            with self.assertRaises(Unreachable) as caught:
                nearest_round(house, task)
            self.assertEqual(caught.exception.place, cut_off(house, task))
            self.assertIsNotNone(caught.exception.place)
            self.assertEqual((helpers.house_state(house), helpers.task_state(task)), before)

    def test_the_greatest_task(self):
        house = House([40, 40], [40] * 11, [])
        task = Task((0, 0), (11, 80), [(number % 12, (number * 37) % 81) for number in range(60)])
        self.assertIs(is_round(house, task, nearest_round(house, task)), True)


if __name__ == "__main__":
    unittest.main()
