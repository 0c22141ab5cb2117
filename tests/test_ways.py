"""Points [3], [5], [12] and [16] to [19]: levels, distances, least ways and cuts."""

import unittest
from itertools import combinations, product

import helpers
from pickaisle.errors import InvalidPlace, Unreachable
from pickaisle.houses import House
from pickaisle.tasks import Task
from pickaisle.ways import check_cut, check_levels, check_round, cut_off, distance, least_way, levels, reached

# Aisle 0 is parted in the middle, and both gaps are closed at the top: its upper half is reached from nowhere else.
PARTED = House([4], [1, 1], [("up", 0, 1), ("over", 0, 4), ("over", 1, 4)])


class Levels(unittest.TestCase):
    def test_all_places_of_small_houses(self):
        for house in helpers.small_houses() + [PARTED]:
            for place in helpers.all_places(house):
                best = helpers.least_ways_from(house, place)
                self.assertEqual(levels(house, place), {other: best[other][0] for other in best})
                self.assertEqual(reached(house, place), sorted(best))

    def test_example(self):
        house = House([3], [2], [("up", 0, 1)])
        self.assertEqual([distance(house, (0, 1), (0, 3)), levels(house, (1, 2))[(0, 0)]], [8, 4])

    def test_places_that_are_not_reached(self):
        self.assertEqual(reached(PARTED, (0, 3)), [(0, 2), (0, 3), (0, 4)])
        self.assertNotIn((0, 2), levels(PARTED, (0, 0)))

    def test_no_place_of_the_house(self):
        house = House([3], [2], [])
        for wrong in [(2, 0), (-1, 0), (0, 4), (0, -1)]:
            for function in [levels, reached]:
                with self.assertRaises(InvalidPlace) as caught:
                    function(house, wrong)
                self.assertEqual(caught.exception.place, wrong)

    def test_what_is_returned_is_new(self):
        house = House([3], [2], [])
        levels(house, (0, 0)).clear()
        reached(house, (0, 0)).clear()
        self.assertEqual(len(levels(house, (0, 0))), 8)
        self.assertEqual(len(reached(house, (0, 0))), 8)


class CheckLevels(unittest.TestCase):
    def test_right_dicts(self):
        for house in helpers.small_houses() + [PARTED]:
            for place in helpers.all_places(house):
                best = helpers.least_ways_from(house, place)
                numbers = {other: best[other][0] for other in best}
                self.assertIs(check_levels(house, place, numbers), True)
                self.assertEqual(numbers, {other: best[other][0] for other in best})

    def test_dicts_with_one_fault(self):
        for house in helpers.small_houses() + [PARTED]:
            for place in helpers.all_places(house)[::2]:
                numbers = levels(house, place)
                for other in numbers:
                    fewer = {key: numbers[key] for key in numbers if key != other}
                    self.assertIs(check_levels(house, place, fewer), False)
                    for wrong in [-1, 0, numbers[other] - 1, numbers[other] + 1, numbers[other] + 1000]:
                        if wrong != numbers[other]:
                            self.assertIs(check_levels(house, place, {**numbers, other: wrong}), False)

    def test_all_numbers_wrong(self):
        for house in helpers.small_houses():
            numbers = levels(house, (0, 0))
            self.assertIs(check_levels(house, (0, 0), {}), False)
            self.assertIs(check_levels(house, (0, 0), {place: numbers[place] + 1 for place in numbers}), False)
            self.assertIs(check_levels(house, (0, 0), {place: -numbers[place] for place in numbers}), False)
            self.assertIs(check_levels(house, (0, 0), {place: 0 for place in numbers}), False)

    def test_levels_from_another_place(self):
        house = House([2], [1], [])
        self.assertIs(check_levels(house, (0, 0), levels(house, (0, 1))), False)

    def test_places_that_are_not_reached(self):
        numbers = levels(PARTED, (0, 0))
        for more in [{(0, 2): 5}, {(0, 2): 0}, {(0, 2): 5, (0, 3): 6, (0, 4): 7}, {(0, 2): 0, (0, 3): 1, (0, 4): 2}]:
            self.assertIs(check_levels(PARTED, (0, 0), {**numbers, **more}), False)

    def test_what_is_no_place_of_the_house(self):
        house = House([2], [1], [])
        numbers = levels(house, (0, 0))
        for wrong in [(2, 0), (0, 3), (0, -1), (-1, 0)]:
            self.assertIs(check_levels(house, wrong, {wrong: 0}), False)
            self.assertIs(check_levels(house, wrong, numbers), False)
            self.assertIs(check_levels(house, wrong, {}), False)
            for number in [-1, 0, 1, 3]:
                self.assertIs(check_levels(house, (0, 0), {**numbers, wrong: number}), False)

    def test_all_dicts_of_a_little_house(self):
        house = House([1], [2], [])
        places = helpers.all_places(house)
        right = levels(house, (0, 0))
        for told in product([None, -1, 0, 1, 2, 3, 4, 5], repeat=len(places)):
            numbers = {place: number for place, number in zip(places, told) if number is not None}
            self.assertIs(check_levels(house, (0, 0), numbers), numbers == right)

    def test_numbers_that_go_the_long_way_round(self):
        house = House([3], [2], [])
        numbers = levels(house.with_closed(("up", 0, 0)), (0, 0))
        self.assertEqual(numbers[(0, 1)], 9)
        self.assertIs(check_levels(house, (0, 0), numbers), False)


class LeastWays(unittest.TestCase):
    def test_all_pairs_of_small_houses(self):
        for house in helpers.small_houses() + [PARTED]:
            for one in helpers.all_places(house):
                best = helpers.least_ways_from(house, one)
                for other in helpers.all_places(house):
                    self.assertEqual(distance(house, one, other), best[other][0] if other in best else None)
                    self.assertEqual(least_way(house, one, other), best[other][1] if other in best else None)

    def test_example(self):
        house = House([3], [2], [("up", 0, 1)])
        self.assertEqual(least_way(house, (1, 1), (0, 1)), [(1, 1), (1, 0), (0, 0), (0, 1)])

    def test_first_of_several_ways(self):
        house = House([2], [1, 1], [])
        self.assertEqual(least_way(house, (0, 1), (2, 1)), [(0, 1), (0, 0), (1, 0), (2, 0), (2, 1)])
        self.assertEqual(least_way(house, (0, 0), (2, 2)),
                         [(0, 0), (0, 1), (0, 2), (1, 2), (2, 2)])
        self.assertEqual(least_way(house, (2, 2), (0, 0)),
                         [(2, 2), (1, 2), (0, 2), (0, 1), (0, 0)])

    def test_from_a_place_to_itself(self):
        self.assertEqual(least_way(PARTED, (0, 3), (0, 3)), [(0, 3)])
        self.assertEqual(distance(PARTED, (0, 3), (0, 3)), 0)

    def test_not_reached(self):
        self.assertIsNone(distance(PARTED, (0, 0), (0, 2)))
        self.assertIsNone(least_way(PARTED, (0, 2), (0, 0)))

    def test_first_wrong_place(self):
        for function in [distance, least_way]:
            for one, other, wrong in [((3, 0), (4, 0), (3, 0)), ((0, 0), (4, 0), (4, 0)), ((0, 5), (0, 0), (0, 5)),
                                      ((0, 3), (0, -1), (0, -1))]:
                with self.assertRaises(InvalidPlace) as caught:
                    function(PARTED, one, other)
                self.assertEqual(caught.exception.place, wrong)


class Cuts(unittest.TestCase):
    def first_not_reached(self, house, task):
        best = helpers.least_ways_from(house, task.start)
        return next((mark for mark in [task.end] + sorted(task.picks) if mark not in best), None)

    def test_cut_off_in_small_houses(self):
        for house in helpers.small_houses() + [PARTED]:
            for task in helpers.small_tasks(house):
                self.assertEqual(cut_off(house, task), self.first_not_reached(house, task))

    def test_cut_off_tells_the_end_first(self):
        picks = [(0, 3), (0, 2), (1, 1)]
        self.assertEqual(cut_off(PARTED, Task((0, 0), (0, 4), picks)), (0, 4))
        self.assertEqual(cut_off(PARTED, Task((0, 0), (1, 0), picks)), (0, 2))
        self.assertEqual(cut_off(PARTED, Task((0, 4), (0, 4), picks)), (1, 1))
        self.assertIsNone(cut_off(PARTED, Task((0, 4), (0, 4), picks[:2])))

    def test_check_round(self):
        with self.assertRaises(Unreachable) as caught:
            check_round(PARTED, Task((0, 0), (0, 4), [(0, 2)]))
        self.assertEqual(caught.exception.place, (0, 4))
        self.assertIsNone(check_round(PARTED, Task((0, 0), (1, 0), [(0, 1)])))

    def test_check_cut_for_all_lists_of_places(self):
        for house in [House([1], [1], [("over", 0, 1), ("up", 0, 0)]), House([2], [], [("up", 0, 1)]),
                      House([1], [1], [("over", 0, 1), ("over", 0, 0)]), House([2], [], [])]:
            table = helpers.step_table(house)
            tried = helpers.all_places(house) + [(0, 7)]
            for task in helpers.small_tasks(house):
                for size in range(len(tried) + 1):
                    for places in combinations(tried, size):
                        shut = (0, 7) not in places and task.start in places
                        shut = shut and all(other in places for one in places for other, _ in table[one])
                        for place in tried:
                            cut = shut and place in task.marks() and place not in places
                            self.assertIs(check_cut(house, task, place, list(places)[::-1]), cut)

    def test_each_mark_is_reached_or_cut_off(self):
        for house in helpers.small_houses() + [PARTED]:
            for task in helpers.small_tasks(house):
                places = reached(house, task.start)
                for mark in task.marks():
                    self.assertIs(check_cut(house, task, mark, places), mark not in places)

    def test_what_does_not_cut_off(self):
        task = Task((0, 0), (0, 0), [(0, 3)])
        low = reached(PARTED, (0, 0))
        self.assertIs(check_cut(PARTED, task, (0, 3), low), True)
        self.assertIs(check_cut(PARTED, task, (0, 3), low + low), True)
        self.assertIs(check_cut(PARTED, task, (0, 3), []), False)
        self.assertIs(check_cut(PARTED, task, (0, 3), low[1:]), False)
        self.assertIs(check_cut(PARTED, task, (0, 3), low[:-1]), False)
        self.assertIs(check_cut(PARTED, task, (0, 3), low + [(0, 3)]), False)
        self.assertIs(check_cut(PARTED, task, (0, 3), low + [(9, 9)]), False)
        self.assertIs(check_cut(PARTED, task, (0, 4), low), False)
        self.assertIs(check_cut(PARTED, task, (0, 0), low), False)
        self.assertIs(check_cut(PARTED, task, (9, 9), low), False)

    def test_a_task_that_does_not_fit(self):
        for task, wrong in [(Task((0, 1), (9, 9), []), (0, 1)), (Task((0, 0), (9, 9), [(8, 8)]), (9, 9)),
                            (Task((0, 0), (0, 4), [(8, 8), (7, 7)]), (7, 7))]:
            for call in [lambda: cut_off(PARTED, task), lambda: check_cut(PARTED, task, (9, 9), []),
                         lambda: check_round(PARTED, task)]:
                with self.assertRaises(InvalidPlace) as caught:
                    call()
                self.assertEqual(caught.exception.place, wrong)

    def test_nothing_changes(self):
        task, places = Task((0, 0), (0, 0), [(0, 3)]), [(2, 0), (0, 0)]
        before = (helpers.house_state(PARTED), helpers.task_state(task), list(places))
        cut_off(PARTED, task)
        check_cut(PARTED, task, (0, 3), places)
        self.assertEqual((helpers.house_state(PARTED), helpers.task_state(task), places), before)


class GreatHouse(unittest.TestCase):
    def test_a_house_of_the_greatest_size(self):
        house = House([40, 40], [40] * 11, [])
        self.assertEqual(distance(house, (0, 0), (11, 80)), 520)
        self.assertEqual(len(reached(house, (5, 5))), 12 * 81)
        self.assertEqual(distance(house, (0, 39), (1, 39)), 42)
        self.assertEqual(distance(house, (0, 20), (1, 20)), 80)


if __name__ == "__main__":
    unittest.main()
