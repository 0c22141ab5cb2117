"""Points [3], [5], [19] and [55] to [59]: lengths behind, extras, free places, savings, and two tasks together."""

import unittest

import helpers
from pickaisle.errors import InvalidPlace, UnknownPick, Unreachable
from pickaisle.extras import extra, extras_of, free_places, lengths_behind, saving
from pickaisle.houses import House
from pickaisle.least import all_plans
from pickaisle.tables import least_length, lengths_from, table
from pickaisle.tasks import Task, joined_tasks
from pickaisle.ways import cut_off, distance, levels

NONE, DONE = "none", "done"
APART = House([3], [1, 1], [("over", 0, 0), ("over", 0, 3), ("up", 1, 0), ("up", 1, 2)])


def cases():
    """The small houses with the small tasks that have rounds, and a house of which a part is not reached."""
    parted = [(APART, Task((1, 0), (2, 3), [(2, 2)])), (APART, Task((0, 0), (0, 3), []))]
    found = [(house, task) for house in helpers.small_houses() for task in helpers.small_tasks(house)]
    return parted + [(house, task) for house, task in found if cut_off(house, task) is None]


def distances_to_marks(house, marks):
    """For each place that is reached the distance to the nearest mark."""
    found = {}
    for mark in marks:
        for place, number in levels(house, mark).items():
            found[place] = min(number, found.get(place, number))
    return found


class LengthsBehind(unittest.TestCase):
    def test_back_from_the_last_aisle(self):
        for house in helpers.small_houses():
            for task in helpers.small_tasks(house)[::2]:
                lengths = lengths_from(house, task)
                wanted = [{DONE: 0} if DONE in lengths[-1] else {}]
                for aisle in reversed(range(house.aisles)):
                    numbers = {}
                    for (ahead, behind), length in table(house, task, aisle).items():
                        if ahead in lengths[aisle] and behind in wanted[0]:
                            whole = length + wanted[0][behind]
                            numbers[ahead] = min(whole, numbers.get(ahead, whole))
                    wanted.insert(0, numbers)
                self.assertEqual(lengths_behind(house, task), wanted)

    def test_both_sides_make_the_least_length(self):
        for house, task in cases():
            length = helpers.least_round_length(house, task)
            ahead, behind = lengths_from(house, task), lengths_behind(house, task)
            self.assertEqual([len(ahead), len(behind)], [house.aisles + 1] * 2)
            self.assertEqual([behind[0], behind[-1]], [{NONE: length}, {DONE: 0}])
            for one, other in zip(ahead, behind):
                self.assertTrue(set(other) <= set(one))
                self.assertEqual(min(one[kind] + other[kind] for kind in other), length)

    def test_no_round(self):
        task = Task((0, 0), (0, 0), [(1, 1)])
        self.assertEqual(lengths_behind(House([1], [1], [("over", 0, 0), ("over", 0, 1)]), task), [{}, {}, {}])
        self.assertEqual(lengths_behind(House([3], [], [("up", 0, 0), ("up", 0, 2)]), Task((0, 0), (0, 0), [(0, 1)])),
                         [{}, {}])
        self.assertEqual(lengths_behind(House([3], [], []), Task((0, 0), (0, 0), [(0, 1)])), [{NONE: 2}, {DONE: 0}])

    def test_at_the_bounds(self):
        house, task = helpers.large_house(), helpers.large_task().without_pick(helpers.large_task().picks[7])
        ahead, behind = lengths_from(house, task), lengths_behind(house, task)
        for one, other in zip(ahead, behind):
            self.assertEqual(min(one[kind] + other[kind] for kind in other), least_length(house, task))


class Extras(unittest.TestCase):
    def test_least_lengths_with_the_place(self):
        none = 0
        for house, task in cases():
            length = least_length(house, task)
            wanted = {}
            for place in helpers.all_places(house):
                more = least_length(house, task if task.has_pick(place) else task.with_pick(place))
                wanted[place] = None if more is None else more - length
                self.assertEqual(extra(house, task, place), wanted[place])
                self.assertIs(more is None, place not in levels(house, task.start))
                none += more is None
            self.assertEqual(extras_of(house, task), wanted)
        self.assertGreater(none, 0)

    def test_against_a_search(self):
        house, task = House([3, 1], [1, 2], [("up", 1, 0)]), Task((0, 0), (2, 4), [(1, 2), (2, 1)])
        length = helpers.least_round_length(house, task)
        wanted = {place: helpers.least_round_length(house, task.with_pick(place)) - length for place in house.places()
                  if not task.has_pick(place)}
        self.assertEqual(extras_of(house, task), wanted | {(1, 2): 0, (2, 1): 0})

    def test_marks_and_bounds(self):
        for house, task in cases():
            extras, near = extras_of(house, task), distances_to_marks(house, task.marks())
            self.assertEqual(list(extras), sorted(helpers.all_places(house)))
            for place, number in extras.items():
                self.assertIs(number is None, place not in near)
                if number is not None:
                    self.assertTrue(0 <= number <= 2 * near[place])
            self.assertEqual([extras[mark] for mark in task.marks()], [0] * len(task.marks()))
            self.assertEqual([extra(house, task, mark) for mark in task.marks()], [0] * len(task.marks()))

    def test_cases(self):
        house = House([10], [4], [])
        task = Task((0, 0), (0, 0), [(1, 3)])
        self.assertEqual(extras_of(house, task)[(1, 5)], 4)
        # To (1, 10) and back it is 28, and just as far round about by the top; the least round without it has 14.
        self.assertEqual([extra(house, task, place) for place in [(1, 10), (0, 1), (0, 10), (1, 2), (0, 0)]],
                         [14, 2, 14, 0, 0])
        self.assertIsNone(extra(APART, Task((1, 0), (2, 3), []), (0, 1)))
        self.assertIsNone(extra(APART, Task((1, 0), (2, 3), []), (1, 1)))

    def test_aisles_without_marks(self):
        house = House([2, 1], [1, 3, 1, 2], [("up", 0, 0), ("over", 3, 0)])
        for task in [Task((2, 0), (2, 0), []), Task((1, 3), (3, 2), []), Task((3, 0), (3, 3), [(1, 1)])]:
            for place, number in extras_of(house, task).items():
                if not task.has_pick(place):
                    wanted = helpers.least_round_length(house, task.with_pick(place))
                    self.assertEqual(number, wanted - helpers.least_round_length(house, task))

    def test_at_the_bounds(self):
        house, task = helpers.large_house(), helpers.large_task()
        task = task.without_pick(task.picks[30])
        extras, length = extras_of(house, task), least_length(house, task)
        for place in house.places()[::61] + task.picks[::19] + [(2, 41), (2, 42), (7, 20), (11, 80)]:
            wanted = least_length(house, task if task.has_pick(place) else task.with_pick(place))
            self.assertEqual(extras[place], wanted - length)
            self.assertEqual(extra(house, task, place), extras[place])
        self.assertEqual(free_places(house, task), [place for place, number in extras.items() if number == 0])


    def test_60_picks(self):
        # A pick more than a task may have: both aisles are walked from the height 0 alone.
        house = House([40, 40], [1], [("over", 0, 40), ("over", 0, 80)])
        task = Task((0, 0), (0, 0), [(1, height) for height in range(1, 61)])
        extras = extras_of(house, task)
        self.assertEqual(extras, {(aisle, height): 2 * height if aisle == 0 else 2 * max(height - 60, 0)
                                  for aisle, height in house.places()})
        self.assertEqual([extra(house, task, place) for place in [(0, 7), (1, 70), (1, 60)]], [14, 20, 0])


class FreePlaces(unittest.TestCase):
    def test_places_that_least_rounds_pass(self):
        for house, task in cases():
            passed = {task.start}
            for plan in all_plans(house, task):
                passed |= {place for link in plan for place in house.ends_of(link)}
            self.assertEqual(free_places(house, task), sorted(passed))

    def test_all_plans_of_very_small_houses(self):
        for house in helpers.plan_houses():
            for task in helpers.small_tasks(house):
                plans = helpers.all_plans(house, task)
                least = min(helpers.plan_size(house, plan) for plan in plans)
                passed = {place for plan in plans if helpers.plan_size(house, plan) == least for link in plan
                          for place in helpers.all_links(house)[link][:2]}
                self.assertEqual(free_places(house, task), sorted(passed | {task.start}))

    def test_no_link_is_walked(self):
        self.assertEqual(free_places(House([2], [1], []), Task((1, 2), (1, 2), [])), [(1, 2)])


class Savings(unittest.TestCase):
    def test_least_lengths_without_the_pick(self):
        for house, task in cases():
            for pick in task.picks:
                less = task.without_pick(pick)
                number = saving(house, task, pick)
                self.assertEqual(number, least_length(house, task) - least_length(house, less))
                self.assertTrue(0 <= number <= 2 * distances_to_marks(house, less.marks())[pick])

    def test_cases(self):
        house, task = House([10], [4], []), Task((0, 0), (0, 0), [(0, 0), (1, 3), (1, 9)])
        self.assertEqual([saving(house, task, pick) for pick in task.picks], [0, 0, 12])
        self.assertEqual(saving(house, Task((0, 0), (0, 0), [(1, 1)]), (1, 1)), 10)

    def test_at_the_bounds(self):
        house, task = helpers.large_house(), helpers.large_task()
        for task in [task, task.without_pick(task.picks[0])]:
            for pick in task.picks[::19]:
                less = least_length(house, task.without_pick(pick))
                self.assertEqual(saving(house, task, pick), least_length(house, task) - less)

    def test_a_pick_that_alone_is_not_reached(self):
        with self.assertRaises(Unreachable) as caught:
            saving(APART, Task((0, 0), (0, 0), [(0, 1), (1, 1)]), (0, 1))
        self.assertEqual(caught.exception.place, (1, 1))
        self.assertRaises(Unreachable, saving, APART, Task((0, 0), (0, 0), [(0, 1), (1, 1)]), (1, 1))


class TwoTasks(unittest.TestCase):
    def test_picks_of_both(self):
        tried = 0
        for house, task in cases():
            way_back = distance(house, task.end, task.start)
            for at in range(len(task.picks) + 1):
                one = Task(task.start, task.end, task.picks[:at])
                other = Task(task.start, task.end, task.picks[max(at - 1, 0):])
                both = joined_tasks(one, other)
                most = least_length(house, one) + least_length(house, other) + way_back
                self.assertLessEqual(least_length(house, both), most)
                tried += 1
        self.assertGreater(tried, 100)


class Wrong(unittest.TestCase):
    def calls(self):
        return [lengths_behind, lambda house, task: extra(house, task, (0, 0)), extras_of, free_places,
                lambda house, task: saving(house, task, (0, 0)), lambda house, task: extra(house, task, (-1, 0))]

    def test_a_task_that_does_not_fit(self):
        for house in [House([3], [1], []), House([2, 2], [1, 1], [("up", 0, 1)]),
                      House([3], [1], [("over", 0, 0), ("over", 0, 3)])]:
            for call in self.calls():
                helpers.refuse_wrong_tasks(self, house, call)

    def refused(self, error, place, call, house, task, *more):
        before = (helpers.house_state(house), helpers.task_state(task))
        with self.assertRaises(error) as caught:
            call(house, task, *more)
        self.assertEqual(caught.exception.place, place)
        self.assertEqual((helpers.house_state(house), helpers.task_state(task)), before)

    def test_a_place_of_no_house(self):
        for house, task in [(House([3], [1], []), Task((0, 0), (0, 0), [(0, 1)])),
                            (APART, Task((0, 0), (1, 0), [(1, 1)]))]:
            for place in [(-1, 0), (house.aisles, 0), (0, -1), (0, 4), (1000, -1000)]:
                self.refused(InvalidPlace, place, extra, house, task, place)

    def test_no_round(self):
        for task, place in [(Task((0, 0), (1, 0), [(1, 1), (0, 1)]), (1, 0)),
                            (Task((0, 0), (0, 0), [(2, 1), (1, 1)]), (1, 1))]:
            self.refused(Unreachable, place, extra, APART, task, (0, 1))
            self.refused(Unreachable, place, extra, APART, task, task.picks[0])
            self.refused(Unreachable, place, extras_of, APART, task)
            self.refused(Unreachable, place, free_places, APART, task)
            self.refused(Unreachable, place, saving, APART, task, task.picks[0])

    def test_an_unknown_pick(self):
        for task in [Task((0, 0), (0, 3), [(0, 1)]), Task((0, 0), (1, 0), [(1, 1)])]:
            for place in [(0, 0), (0, 2), (7, 7), (-1, 0)]:
                self.refused(UnknownPick, place, saving, APART, task, place)

    def test_new_and_nothing_changed(self):
        house, task = House([2, 1], [1], [("up", 1, 0)]), Task((0, 0), (1, 3), [(0, 1), (1, 1)])
        for call in [lengths_behind, extras_of, free_places]:
            helpers.assert_new_and_nothing_changed(self, house, task, call)


if __name__ == "__main__":
    unittest.main()
