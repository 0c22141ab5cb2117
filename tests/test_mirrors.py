"""Points [3], [5] and [40]: flipped and swapped houses, tasks, rounds and tables."""

import random
import unittest

import helpers
from pickaisle.houses import House
from pickaisle.kinds import flipped_kind
from pickaisle.mirrors import flipped_house, flipped_task, swapped_house, swapped_task
from pickaisle.rounds import is_round, walk_length
from pickaisle.tables import least_length, table
from pickaisle.tasks import Task

TURNS = [(flipped_house, flipped_task), (swapped_house, swapped_task)]


def turned_place(house, turn, place):
    """The place in the turned house."""
    aisle, height = place
    if turn is flipped_house:
        return (aisle, sum(house.lengths) - height)
    return (len(house.gaps) - aisle, height)


def link_joining(house, places):
    """The link of the house between the two places."""
    return [link for link, row in helpers.all_links(house).items() if row[:2] == tuple(sorted(places))][0]


class Houses(unittest.TestCase):
    def test_stretches_and_gaps(self):
        house = House([1, 2], [3, 4, 5], [])
        self.assertEqual(helpers.house_state(flipped_house(house)), ([2, 1], [3, 4, 5], [], 3, 4))
        self.assertEqual(helpers.house_state(swapped_house(house)), ([1, 2], [5, 4, 3], [], 3, 4))

    def test_closed_links(self):
        house = House([1, 2], [3, 4], [("up", 0, 0), ("up", 1, 2), ("over", 0, 1), ("over", 1, 3)])
        self.assertEqual(flipped_house(house).closed,
                         [("over", 0, 2), ("over", 1, 0), ("up", 0, 2), ("up", 1, 0)])
        self.assertEqual(swapped_house(house).closed,
                         [("over", 0, 3), ("over", 1, 1), ("up", 1, 2), ("up", 2, 0)])

    def test_each_link_joins_the_turned_places(self):
        for plain in [House([1, 2], [3, 1, 2], []), House([3], [2], []), House([2], [], [])]:
            for link, (one, other, length) in helpers.all_links(plain).items():
                house = House(plain.lengths, plain.gaps, [link])
                for turn, _ in TURNS:
                    turned = turn(house)
                    places = [turned_place(house, turn, place) for place in (one, other)]
                    self.assertEqual(turned.closed, [link_joining(turned, places)])
                    self.assertEqual(turned.length_of(turned.closed[0]), length)

    def test_turned_twice(self):
        for house in helpers.small_houses() + [helpers.large_house()]:
            for turn, _ in TURNS:
                self.assertIs(turn(turn(house)).same_as(house), True)
            self.assertIs(flipped_house(swapped_house(house)).same_as(swapped_house(flipped_house(house))), True)

    def test_all_closed_links_at_the_bounds(self):
        links = sorted(helpers.all_links(House([40, 40], [40] * 11, [])))[::4][:200]
        house = House([40, 40], [40] * 11, links)
        for turn, _ in TURNS:
            self.assertEqual(len(turn(house).closed), 200)
            self.assertIs(turn(turn(house)).same_as(house), True)


class Tasks(unittest.TestCase):
    def test_places(self):
        house, task = House([1, 2], [3, 4], []), Task((0, 0), (2, 1), [(1, 2), (2, 3), (0, 0)])
        self.assertEqual(helpers.task_state(flipped_task(house, task)), ((0, 3), (2, 2), [(0, 3), (1, 1), (2, 0)]))
        self.assertEqual(helpers.task_state(swapped_task(house, task)), ((2, 0), (0, 1), [(0, 3), (1, 2), (2, 0)]))

    def test_turned_twice(self):
        for house in helpers.small_houses():
            for task in helpers.small_tasks(house):
                for turn, with_task in TURNS:
                    again = with_task(turn(house), with_task(house, task))
                    self.assertIs(again.same_as(task), True)

    def test_at_the_bounds(self):
        house, task = helpers.large_house(), helpers.large_task()
        length = least_length(house, task)
        for turn, with_task in TURNS:
            turned = with_task(house, task)
            self.assertEqual(turned.picks, sorted(turned_place(house, turn, pick) for pick in task.picks))
            self.assertEqual(least_length(turn(house), turned), length)
            self.assertIs(with_task(turn(house), turned).same_as(task), True)


class Rounds(unittest.TestCase):
    def test_least_rounds_are_as_long(self):
        for house in helpers.small_houses():
            for task in helpers.small_tasks(house):
                length = least_length(house, task)
                for turn, with_task in TURNS:
                    self.assertEqual(least_length(turn(house), with_task(house, task)), length)

    def test_turned_walks_are_rounds_of_the_same_length(self):
        chance = random.Random(7)
        for house in helpers.small_houses():
            for _ in range(10):
                walk = helpers.chance_walk(house, (0, 0), 20, chance)
                while not house.is_cross(walk[-1]):
                    walk.pop()
                task = Task((0, 0), walk[-1], sorted(set(walk[::5])))
                for turn, with_task in TURNS:
                    turned = [turned_place(house, turn, place) for place in walk]
                    self.assertIs(is_round(turn(house), with_task(house, task), turned), True)
                    self.assertEqual(walk_length(turn(house), turned), walk_length(house, walk))


class Tables(unittest.TestCase):
    def test_flipped_kinds_with_the_same_lengths(self):
        cases = [(house, task) for house in helpers.small_houses() for task in helpers.small_tasks(house)]
        for house, task in cases[::2] + [(helpers.large_house(), helpers.large_task())]:
            for aisle in range(house.aisles):
                wanted = {(flipped_kind(ahead), flipped_kind(behind)): length
                          for (ahead, behind), length in table(house, task, aisle).items()}
                self.assertEqual(table(flipped_house(house), flipped_task(house, task), aisle), wanted)


class Wrong(unittest.TestCase):
    def test_a_task_that_does_not_fit(self):
        for house in [House([3], [1], []), House([2, 3], [1, 1], [("up", 0, 1)])]:
            for _, with_task in TURNS:
                helpers.refuse_wrong_tasks(self, house, with_task)

    def test_nothing_changes(self):
        house, task = House([1, 2], [3, 4], [("up", 0, 0)]), Task((0, 0), (2, 1), [(1, 2)])
        before = (helpers.house_state(house), helpers.task_state(task))
        for turn, with_task in TURNS:
            turn(house)
            with_task(house, task)
        self.assertEqual((helpers.house_state(house), helpers.task_state(task)), before)


if __name__ == "__main__":
    unittest.main()
