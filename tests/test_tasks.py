"""Points [3], [4], [11] and [12]: tasks."""

import unittest

import helpers
from pickaisle.errors import InvalidPlace, InvalidTask, PickTaken, TooLarge, UnknownPick
from pickaisle.houses import House
from pickaisle.tasks import Task, check_task, joined_tasks


def picks_of(many, aisle=0):
    return [(aisle, height) for height in range(many)]


class WhatATaskTells(unittest.TestCase):
    def test_picks_and_marks_ascending(self):
        task = Task((2, 0), (0, 5), [(3, 1), (0, 5), (-4, 7), (0, -2)])
        self.assertEqual(helpers.task_state(task), ((2, 0), (0, 5), [(-4, 7), (0, -2), (0, 5), (3, 1)]))
        self.assertEqual(task.marks(), [(-4, 7), (0, -2), (0, 5), (2, 0), (3, 1)])

    def test_each_mark_once(self):
        self.assertEqual(Task((1, 0), (1, 0), []).marks(), [(1, 0)])
        self.assertEqual(Task((1, 0), (1, 0), [(1, 0)]).marks(), [(1, 0)])
        self.assertEqual(Task((1, 0), (0, 9), []).marks(), [(0, 9), (1, 0)])
        self.assertEqual(Task((1, 0), (0, 0), [(0, 0), (1, 0)]).marks(), [(0, 0), (1, 0)])

    def test_has_pick(self):
        task = Task((1, 0), (0, 0), [(0, 3)])
        self.assertIs(task.has_pick((0, 3)), True)
        self.assertIs(task.has_pick((1, 0)), False)
        self.assertIs(task.has_pick((3, 0)), False)

    def test_sixty_picks_and_one_more(self):
        self.assertEqual(Task((0, 0), (0, 0), picks_of(60)[::-1]).picks, picks_of(60))
        with self.assertRaises(InvalidTask):
            Task((0, 0), (0, 0), picks_of(61))

    def test_two_picks_that_are_the_same(self):
        picks = [(0, 1), (2, 2), (0, 1)]
        with self.assertRaises(InvalidTask):
            Task((0, 0), (0, 0), picks)
        self.assertEqual(picks, [(0, 1), (2, 2), (0, 1)])

    def test_places_of_no_house_are_taken(self):
        task = Task((-1000, 1000), (1000, -1000), [(-1000, -1000)])
        self.assertEqual(task.marks(), [(-1000, -1000), (-1000, 1000), (1000, -1000)])


class OtherTasks(unittest.TestCase):
    def setUp(self):
        self.task = Task((1, 0), (0, 0), [(0, 3), (0, 1)])
        self.before = helpers.task_state(self.task)

    def tearDown(self):
        self.assertEqual(helpers.task_state(self.task), self.before)

    def test_with_pick(self):
        self.assertEqual(helpers.task_state(self.task.with_pick((0, 2))), ((1, 0), (0, 0), [(0, 1), (0, 2), (0, 3)]))
        self.assertEqual(self.task.with_pick((1, 0)).picks, [(0, 1), (0, 3), (1, 0)])

    def test_with_pick_that_is_taken(self):
        with self.assertRaises(PickTaken) as caught:
            self.task.with_pick((0, 3))
        self.assertEqual(caught.exception.place, (0, 3))

    def test_with_pick_beyond_sixty(self):
        full = Task((0, 0), (0, 0), picks_of(59)).with_pick((5, 5))
        with self.assertRaises(TooLarge):
            full.with_pick((6, 6))
        with self.assertRaises(PickTaken) as caught:
            full.with_pick((5, 5))
        self.assertEqual(caught.exception.place, (5, 5))
        self.assertEqual(full.picks, picks_of(59) + [(5, 5)])

    def test_without_pick(self):
        self.assertEqual(helpers.task_state(self.task.without_pick((0, 1))), ((1, 0), (0, 0), [(0, 3)]))
        for wrong in [(1, 0), (0, 2), (9, 9)]:
            with self.assertRaises(UnknownPick) as caught:
                self.task.without_pick(wrong)
            self.assertEqual(caught.exception.place, wrong)

    def test_with_ends(self):
        self.assertEqual(helpers.task_state(self.task.with_ends((5, 5), (0, 1))), ((5, 5), (0, 1), [(0, 1), (0, 3)]))

    def test_turned(self):
        self.assertEqual(helpers.task_state(self.task.turned()), ((0, 0), (1, 0), [(0, 1), (0, 3)]))

    def test_same_as(self):
        self.assertIs(self.task.same_as(Task((1, 0), (0, 0), [(0, 1), (0, 3)])), True)
        for other in [Task((0, 0), (0, 0), [(0, 1), (0, 3)]), Task((1, 0), (1, 0), [(0, 1), (0, 3)]),
                      Task((1, 0), (0, 0), [(0, 1)]), Task((1, 0), (0, 0), [(0, 1), (0, 4)]), self.task.turned()]:
            self.assertIs(self.task.same_as(other), False)
            self.assertIs(other.same_as(self.task), False)


class CheckTask(unittest.TestCase):
    def setUp(self):
        self.house = House([2, 1], [3], [("up", 0, 0)])

    def wrong_place(self, task):
        before = (helpers.house_state(self.house), helpers.task_state(task))
        with self.assertRaises(InvalidPlace) as caught:
            check_task(self.house, task)
        self.assertEqual((helpers.house_state(self.house), helpers.task_state(task)), before)
        return caught.exception.place

    def test_a_task_that_fits(self):
        for start in [(0, 0), (0, 2), (1, 3)]:
            for end in [(0, 0), (1, 2), (1, 3)]:
                self.assertIsNone(check_task(self.house, Task(start, end, [(0, 0), (0, 1), (1, 3)])))

    def test_the_start_then_the_end_then_the_picks(self):
        self.assertEqual(self.wrong_place(Task((9, 0), (8, 0), [(-1, 0)])), (9, 0))
        self.assertEqual(self.wrong_place(Task((0, 0), (8, 0), [(-1, 0)])), (8, 0))
        self.assertEqual(self.wrong_place(Task((0, 0), (1, 0), [(1, 4), (0, 1), (-1, 0)])), (-1, 0))
        self.assertEqual(self.wrong_place(Task((0, 0), (1, 0), [(2, 0), (0, 1), (1, 4)])), (1, 4))

    def test_ends_are_cross_places(self):
        self.assertEqual(self.wrong_place(Task((0, 1), (1, 1), [])), (0, 1))
        self.assertEqual(self.wrong_place(Task((0, 0), (1, 1), [])), (1, 1))

    def test_edges_of_the_house(self):
        for wrong in [(-1, 0), (2, 0), (0, -1), (0, 4)]:
            self.assertEqual(self.wrong_place(Task(wrong, (0, 0), [])), wrong)
            self.assertEqual(self.wrong_place(Task((0, 0), wrong, [])), wrong)
            self.assertEqual(self.wrong_place(Task((0, 0), (0, 0), [wrong])), wrong)


class JoinedTasks(unittest.TestCase):
    def test_all_picks_of_both(self):
        first = Task((1, 0), (0, 0), [(0, 3), (0, 1)])
        second = Task((5, 0), (6, 0), [(0, 2), (0, 3)])
        self.assertEqual(helpers.task_state(joined_tasks(first, second)), ((1, 0), (0, 0), [(0, 1), (0, 2), (0, 3)]))
        self.assertEqual(helpers.task_state(first), ((1, 0), (0, 0), [(0, 1), (0, 3)]))
        self.assertEqual(helpers.task_state(second), ((5, 0), (6, 0), [(0, 2), (0, 3)]))

    def test_sixty_picks_and_one_more(self):
        first = Task((0, 0), (0, 0), picks_of(40))
        self.assertEqual(joined_tasks(first, Task((0, 0), (0, 0), picks_of(60))).picks, picks_of(60))
        self.assertEqual(len(joined_tasks(first, Task((0, 0), (0, 0), picks_of(20, 1))).picks), 60)
        with self.assertRaises(TooLarge):
            joined_tasks(first, Task((0, 0), (0, 0), picks_of(21, 1)))


class NothingChanges(unittest.TestCase):
    def test_lists_that_were_passed(self):
        picks = [(0, 3), (0, 1)]
        task = Task((1, 0), (0, 0), picks)
        self.assertEqual(picks, [(0, 3), (0, 1)])
        picks.append((7, 7))
        self.assertEqual(task.picks, [(0, 1), (0, 3)])

    def test_lists_that_were_returned(self):
        task = Task((1, 0), (0, 0), [(0, 3)])
        task.picks.append((7, 7))
        task.marks().clear()
        self.assertEqual(task.picks, [(0, 3)])
        self.assertEqual(task.marks(), [(0, 0), (0, 3), (1, 0)])


if __name__ == "__main__":
    unittest.main()
