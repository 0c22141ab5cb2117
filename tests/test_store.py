"""Points [3], [53] and [54]: stores, what they tell, and how many tables and products they make."""

import random
import unittest

import helpers
from pickaisle.errors import InvalidPlace, PickTaken, TooLarge, UnknownPick
from pickaisle.houses import House
from pickaisle.store import Store
from pickaisle.tables import least_length
from pickaisle.tasks import Task


def stretches_with(first, last, aisle):
    """The number of the stretches of the tree with more than one aisle that have this aisle."""
    if first == last:
        return 0
    middle = (first + last) // 2
    return 1 + (stretches_with(first, middle, aisle) if aisle <= middle else stretches_with(middle + 1, last, aisle))


def state(store):
    return (store.tables_made, store.products_made, helpers.task_state(store.task_now()), store.length())


class Lengths(unittest.TestCase):
    def test_puts_and_takes_by_chance(self):
        chance = random.Random(7)
        for house in helpers.small_houses():
            crosses = [place for place in house.places() if house.is_cross(place)]
            start, end = chance.choice(crosses), chance.choice(crosses)
            store, picks = Store(house, start, end), []
            made = [house.aisles, house.aisles - 1]
            for _ in range(15):
                place = chance.choice(house.places())
                if place in picks:
                    picks.remove(place)
                    self.assertIsNone(store.take(place))
                else:
                    picks.append(place)
                    self.assertIsNone(store.put(place))
                made = [made[0] + 1, made[1] + stretches_with(0, house.aisles - 1, place[0])]
                task = Task(start, end, picks)
                self.assertEqual(helpers.task_state(store.task_now()), helpers.task_state(task))
                self.assertEqual(store.length(), least_length(house, task))
                self.assertEqual([store.tables_made, store.products_made], made)

    def test_against_a_search(self):
        house = House([2, 1], [1, 2], [("up", 1, 1), ("over", 0, 3)])
        store = Store(house, (0, 0), (2, 3))
        for place in [(1, 1), (0, 2), (1, 3), (2, 1)]:
            store.put(place)
            self.assertEqual(store.length(), helpers.least_round_length(house, store.task_now()))

    def test_no_picks(self):
        house = House([3], [2, 2], [])
        self.assertEqual(Store(house, (0, 0), (0, 0)).length(), 0)
        self.assertEqual(Store(house, (0, 0), (2, 3)).length(), 7)
        self.assertEqual(Store(house, (2, 3), (0, 0)).task_now().start, (2, 3))

    def test_no_round(self):
        house = House([3], [1], [("over", 0, 0), ("over", 0, 3)])
        store = Store(house, (0, 0), (0, 3))
        self.assertEqual(store.length(), 3)
        store.put((1, 1))
        self.assertIsNone(store.length())
        store.put((0, 1))
        self.assertIsNone(store.length())
        store.take((1, 1))
        self.assertEqual(store.length(), 3)
        self.assertIsNone(Store(house, (0, 0), (1, 0)).length())

    def test_a_pick_where_the_start_or_the_end_is(self):
        store = Store(House([3], [1], []), (0, 0), (1, 3))
        for place in [(0, 0), (1, 3)]:
            store.put(place)
            self.assertEqual(store.length(), 4)
            self.assertRaises(PickTaken, store.put, place)
        store.take((0, 0))
        self.assertEqual((store.length(), store.task_now().picks), (4, [(1, 3)]))


class Made(unittest.TestCase):
    def test_one_aisle(self):
        store = Store(House([3], [], []), (0, 0), (0, 3))
        self.assertEqual((store.tables_made, store.products_made, store.length()), (1, 0, 3))
        store.put((0, 1))
        store.take((0, 1))
        self.assertEqual((store.tables_made, store.products_made, store.length()), (3, 0, 3))

    def test_each_aisle_of_each_number_of_aisles(self):
        for aisles in range(1, 13):
            house = House([2], [1] * (aisles - 1), [])
            store = Store(house, (0, 0), (0, 0))
            self.assertEqual((store.tables_made, store.products_made), (aisles, aisles - 1))
            for aisle in range(aisles):
                before = store.products_made
                store.put((aisle, 1))
                self.assertEqual(store.tables_made, aisles + aisle + 1)
                self.assertEqual(store.products_made - before, stretches_with(0, aisles - 1, aisle))
                self.assertLessEqual(store.products_made - before, 4)

    def test_known_numbers(self):
        store = Store(House([2], [1] * 11, []), (0, 0), (0, 0))
        made = []
        for aisle in range(12):
            before = store.products_made
            store.put((aisle, 1))
            made.append(store.products_made - before)
        # Twelve aisles are parted into six and six, then three and three, then two and one.
        self.assertEqual(made, [4, 4, 3] * 4)

    def test_what_makes_nothing(self):
        store = Store(House([2], [1, 1], []), (0, 0), (2, 0))
        store.put((1, 1))
        before = state(store)
        store.length()
        store.task_now()
        store.twin().put((0, 1))
        self.assertEqual(state(store), before)


class Twins(unittest.TestCase):
    def test_a_twin_has_made_nothing(self):
        store = Store(House([2, 2], [1, 1], [("up", 0, 1)]), (0, 0), (2, 4))
        store.put((1, 1))
        twin = store.twin()
        self.assertIsInstance(twin, Store)
        self.assertEqual((twin.tables_made, twin.products_made), (0, 0))
        self.assertEqual((twin.length(), helpers.task_state(twin.task_now())),
                         (store.length(), helpers.task_state(store.task_now())))
        twin.put((0, 3))
        self.assertEqual((twin.tables_made, twin.products_made), (1, 2))

    def test_neither_changes_the_other_one(self):
        house = House([2, 2], [1, 1], [("up", 0, 1)])
        store = Store(house, (0, 0), (2, 4))
        store.put((1, 1))
        twin = store.twin()
        before, twin_before = state(store), state(twin)
        twin.put((0, 3))
        twin.take((1, 1))
        self.assertEqual(state(store), before)
        self.assertEqual(twin.length(), least_length(house, Task((0, 0), (2, 4), [(0, 3)])))
        other = store.twin()
        store.take((1, 1))
        store.put((2, 2))
        self.assertEqual(state(other), twin_before)
        self.assertEqual(store.length(), least_length(house, Task((0, 0), (2, 4), [(2, 2)])))
        self.assertEqual(twin.task_now().picks, [(0, 3)])

    def test_a_twin_of_a_twin(self):
        store = Store(House([3], [], []), (0, 0), (0, 0))
        first = store.twin()
        first.put((0, 1))
        second = first.twin()
        second.put((0, 2))
        self.assertEqual([store.length(), first.length(), second.length()], [0, 2, 4])
        self.assertEqual([store.tables_made, first.tables_made, second.tables_made], [1, 1, 1])
        self.assertRaises(PickTaken, second.put, (0, 1))
        self.assertRaises(UnknownPick, store.take, (0, 1))


class Wrong(unittest.TestCase):
    def refused(self, store, error, call, place):
        before = state(store)
        with self.assertRaises(error) as caught:
            call(place)
        if error is not TooLarge:
            self.assertEqual(caught.exception.place, place)
        self.assertEqual(state(store), before)

    def test_ends_that_are_no_cross_places(self):
        house = House([2, 2], [1], [])
        for start, end, place in [((0, 1), (0, 0), (0, 1)), ((0, 0), (1, 3), (1, 3)), ((2, 0), (0, 9), (2, 0)),
                                  ((0, -2), (0, 0), (0, -2)), ((0, 4), (0, 5), (0, 5))]:
            with self.assertRaises(InvalidPlace) as caught:
                Store(house, start, end)
            self.assertEqual(caught.exception.place, place)

    def test_puts_and_takes(self):
        store = Store(House([2, 2], [1], []), (0, 0), (1, 4))
        store.put((1, 1))
        for place in [(2, 0), (-1, 0), (0, 5), (0, -1), (1000, 1000)]:
            self.refused(store, InvalidPlace, store.put, place)
            self.refused(store, UnknownPick, store.take, place)
        self.refused(store, PickTaken, store.put, (1, 1))
        for place in [(0, 0), (1, 4), (1, 2)]:
            self.refused(store, UnknownPick, store.take, place)
        twin = store.twin()
        self.refused(twin, PickTaken, twin.put, (1, 1))
        self.refused(twin, InvalidPlace, twin.put, (2, 2))

    def test_59_and_60_picks(self):
        house = helpers.large_house()
        picks = helpers.large_task().picks
        store = Store(house, (4, 80), (9, 0))
        for pick in picks[:59]:
            store.put(pick)
        self.assertEqual(store.length(), least_length(house, Task((4, 80), (9, 0), picks[:59])))
        store.put(picks[59])
        self.assertEqual(store.length(), least_length(house, helpers.large_task()))
        free = [place for place in house.places() if place not in picks]
        self.refused(store, TooLarge, store.put, free[0])
        self.refused(store, PickTaken, store.put, picks[0])
        self.refused(store, InvalidPlace, store.put, (12, 0))
        store.take(picks[30])
        store.put(free[0])
        task = helpers.large_task().without_pick(picks[30]).with_pick(free[0])
        self.assertEqual(store.length(), least_length(house, task))
        self.assertEqual(store.tables_made, 12 + 62)

    def test_the_house_does_not_change(self):
        house = House([2], [1], [("up", 0, 1)])
        before = helpers.house_state(house)
        store = Store(house, (0, 0), (1, 0))
        store.put((0, 1))
        store.task_now().picks.clear()
        self.assertEqual(store.task_now().picks, [(0, 1)])
        self.assertEqual(helpers.house_state(house), before)


if __name__ == "__main__":
    unittest.main()
