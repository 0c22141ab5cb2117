"""Points [3] and [60] to [63]: lots, partings, papers of partings, and the worth of putting orders together."""

import random
import unittest
from copy import deepcopy
from itertools import combinations

import helpers
from pickaisle.batches import least_parting, lot_length, lots_of, parting_paper, shows_parting, worth
from pickaisle.errors import InvalidPlace, Unreachable
from pickaisle.houses import House
from pickaisle.tables import least_length
from pickaisle.tasks import Task
from pickaisle.ways import distance

APART = House([3], [1, 1], [("over", 0, 0), ("over", 0, 3), ("up", 1, 0), ("up", 1, 2)])


def cases():
    """Small houses with two ends and one to six orders by chance, some of which share picks."""
    chance = random.Random(11)
    found = []
    for many, house in enumerate([House([3], [], []), House([3], [2], [("up", 0, 1)]), House([2], [1, 2], []),
                                  House([1, 2], [2, 1], [("up", 1, 1)]), House([2, 1], [1, 1, 2], []),
                                  House([3], [1, 2, 1], [("over", 1, 0)])]):
        crosses = [place for place in house.places() if house.is_cross(place)]
        for ends in [(chance.choice(crosses),) * 2, (chance.choice(crosses), chance.choice(crosses))]:
            orders = [chance.sample(house.places(), chance.randint(1, min(4, len(house.places()))))
                      for _ in range(many + 1)]
            found.append((house, *ends, orders))
    return found


def all_partings(numbers):
    """All ways to put the numbers into sets, as lists of ascending tuples."""
    if not numbers:
        return [[]]
    first, rest = numbers[0], numbers[1:]
    found = []
    for size in range(len(rest) + 1):
        for others in combinations(rest, size):
            left = [number for number in rest if number not in others]
            found += [[(first, *others)] + parting for parting in all_partings(left)]
    return found


def length_by_task(house, start, end, orders, lot):
    return least_length(house, Task(start, end, sorted({pick for number in lot for pick in orders[number]})))


def shown_by_words(many, most, lengths, paper, length):
    """Whether a paper shows that no parting is shorter, by the words of point [62]."""
    tuples = [told for size in range(many + 1) for told in combinations(range(many), size)]
    if any(told not in paper for told in tuples) or paper[()] != 0 or paper[tuple(range(many))] < length:
        return False
    for told in tuples:
        for lot in tuples:
            if 1 <= len(lot) <= most and not set(lot) & set(told):
                if paper[tuple(sorted(told + lot))] > paper[told] + lengths[lot]:
                    return False
    return True


class Lots(unittest.TestCase):
    def test_known_lists(self):
        self.assertEqual(lots_of(1, 1), [(0,)])
        self.assertEqual(lots_of(1, 6), [(0,)])
        self.assertEqual(lots_of(3, 1), [(0,), (1,), (2,)])
        self.assertEqual(lots_of(3, 2), [(0,), (1,), (2,), (0, 1), (0, 2), (1, 2)])
        self.assertEqual(lots_of(3, 6), [(0,), (1,), (2,), (0, 1), (0, 2), (1, 2), (0, 1, 2)])

    def test_all_numbers(self):
        for many in range(1, 7):
            for most in range(1, 7):
                lots = lots_of(many, most)
                wanted = [lot for size in range(1, most + 1) for lot in combinations(range(many), size)]
                self.assertEqual(lots, wanted)
                self.assertEqual(lots, sorted(lots, key=lambda lot: (len(lot), lot)))
        self.assertEqual(len(lots_of(6, 6)), 63)

    def test_a_new_list(self):
        lots_of(3, 2).clear()
        self.assertEqual(len(lots_of(3, 2)), 6)


class LotLengths(unittest.TestCase):
    def test_all_lots(self):
        for house, start, end, orders in cases():
            for lot in lots_of(len(orders), 6):
                length = length_by_task(house, start, end, orders, lot)
                self.assertEqual(lot_length(house, start, end, orders, lot), length)

    def test_against_a_search(self):
        house, orders = House([2], [1, 2], []), [[(0, 1)], [(2, 1), (0, 1)], [(1, 2)]]
        self.assertEqual([lot_length(house, (0, 0), (1, 0), orders, lot) for lot in [(0,), (1,), (0, 1), (0, 1, 2)]],
                         [helpers.least_round_length(house, Task((0, 0), (1, 0), picks))
                          for picks in [[(0, 1)], [(0, 1), (2, 1)], [(0, 1), (2, 1)], [(0, 1), (1, 2), (2, 1)]]])


class LeastPartings(unittest.TestCase):
    def test_all_partings(self):
        for house, start, end, orders in cases():
            lots = lots_of(len(orders), 6)
            lengths = {lot: length_by_task(house, start, end, orders, lot) for lot in lots}
            for most in range(1, 7):
                partings = [parting for parting in all_partings(list(range(len(orders))))
                            if max(len(lot) for lot in parting) <= most]
                wanted = min(sum(lengths[lot] for lot in parting) for parting in partings)
                length, parting = least_parting(house, start, end, orders, most)
                self.assertEqual(length, wanted)
                self.assertEqual(sum(lengths[lot] for lot in parting), wanted)
                self.assertIn(sorted(parting), [sorted(other) for other in partings])
                self.assertEqual(parting, sorted(parting, key=lambda lot: (len(lot), lot)))

    def test_one_order(self):
        house = House([3], [2], [])
        for most in (1, 2, 6):
            self.assertEqual(least_parting(house, (0, 0), (0, 0), [[(1, 1)]], most), (6, [(0,)]))

    def test_lots_of_one_and_of_all(self):
        house, orders = House([1], [1, 1], []), [[(2, 0)], [(1, 0)], [(2, 1)]]
        self.assertEqual(least_parting(house, (0, 0), (0, 0), orders, 1), (12, [(0,), (1,), (2,)]))
        self.assertEqual(least_parting(house, (0, 0), (0, 0), orders, 3), (6, [(0, 1, 2)]))
        self.assertEqual(least_parting(house, (0, 0), (0, 0), orders, 2), (8, [(1,), (0, 2)]))

    def test_the_ends_apart(self):
        # Each lot has to go from end to end, so that one lot is the least.
        house = House([1], [5], [])
        self.assertEqual(least_parting(house, (0, 0), (1, 0), [[(0, 0)], [(1, 0)], [(0, 0), (1, 0)]], 6),
                         (5, [(0, 1, 2)]))

    def test_at_the_bounds(self):
        house, picks = helpers.large_house(), helpers.large_task().picks
        orders = [picks[at::6] for at in range(6)]
        self.assertEqual([len(order) for order in orders], [10] * 6)
        length, parting = least_parting(house, (4, 80), (9, 0), orders, 2)
        self.assertEqual(sorted(number for lot in parting for number in lot), list(range(6)))
        self.assertTrue(all(len(lot) <= 2 for lot in parting))
        self.assertEqual(length, sum(lot_length(house, (4, 80), (9, 0), orders, lot) for lot in parting))
        self.assertLessEqual(length, sum(lot_length(house, (4, 80), (9, 0), orders, (at, at + 1)) for at in (0, 2, 4)))
        paper = parting_paper(house, (4, 80), (9, 0), orders, 2)
        self.assertIs(shows_parting(house, (4, 80), (9, 0), orders, 2, paper, length), True)
        self.assertIs(shows_parting(house, (4, 80), (9, 0), orders, 2, paper, length + 1), False)
        self.assertEqual(lot_length(house, (4, 80), (9, 0), orders, (0, 1, 2, 3, 4, 5)),
                         least_length(house, helpers.large_task()))


class Papers(unittest.TestCase):
    def test_papers_that_are_made(self):
        for house, start, end, orders in cases():
            for most in (1, 2, 6):
                paper = parting_paper(house, start, end, orders, most)
                length, _ = least_parting(house, start, end, orders, most)
                for more in (-10 ** 30, 0, 1):
                    shown = shows_parting(house, start, end, orders, most, paper, length + more)
                    self.assertIs(shown, more <= 0)
                self.assertEqual(sorted(paper), sorted([()] + lots_of(len(orders), 6)))

    def test_papers_that_were_changed(self):
        chance = random.Random(2)
        told = {True: 0, False: 0}
        for house, start, end, orders in cases()[1:9]:
            many, most = len(orders), chance.choice([1, 2, 3])
            lengths = {lot: length_by_task(house, start, end, orders, lot) for lot in lots_of(many, 6)}
            paper = parting_paper(house, start, end, orders, most)
            length = paper[tuple(range(many))]
            for _ in range(15):
                other = dict(paper)
                for key in chance.sample(sorted(paper), chance.choice([1, 1, 2])):
                    other[key] += chance.choice([-10 ** 30, -3, -1, 1, 2, 10 ** 30])
                if chance.random() < 0.2:
                    del other[chance.choice(sorted(other))]
                for number in (length - 5, length):
                    shown = shown_by_words(many, most, lengths, other, number)
                    before = dict(other)
                    self.assertIs(shows_parting(house, start, end, orders, most, other, number), shown)
                    self.assertEqual(other, before)
                    told[shown] += 1
        self.assertGreater(min(told.values()), 10)

    def test_numbers_left_out_and_other_keys(self):
        house, orders = House([1], [1, 1], []), [[(2, 0)], [(1, 0)], [(2, 1)]]
        paper = parting_paper(house, (0, 0), (0, 0), orders, 2)
        for key in paper:
            less = {other: paper[other] for other in paper if other != key}
            self.assertIs(shows_parting(house, (0, 0), (0, 0), orders, 2, less, 8), False)
        more = paper | {(1, 0): -10 ** 20, (3,): 7, (0, 0): 1, (-1,): 10 ** 20, (0, 1, 2, 3): 0}
        self.assertIs(shows_parting(house, (0, 0), (0, 0), orders, 2, more, 8), True)
        self.assertIs(shows_parting(house, (0, 0), (0, 0), orders, 2, {}, 0), False)

    def test_the_empty_tuple(self):
        house, orders = House([3], [2], []), [[(1, 1)]]
        for number in (-1, 1, 10 ** 30):
            self.assertIs(shows_parting(house, (0, 0), (0, 0), orders, 1, {(): number, (0,): 0}, 0), False)
        self.assertIs(shows_parting(house, (0, 0), (0, 0), orders, 1, {(): 0, (0,): 6}, 6), True)
        self.assertIs(shows_parting(house, (0, 0), (0, 0), orders, 1, {(): 0, (0,): 7}, 6), False)
        self.assertIs(shows_parting(house, (0, 0), (0, 0), orders, 1, {(): 0, (0,): -9}, -9), True)

    def test_the_bound_matters(self):
        house, orders = House([1], [1, 1], []), [[(2, 0)], [(1, 0)], [(2, 1)]]
        paper = parting_paper(house, (0, 0), (0, 0), orders, 1)
        self.assertEqual(paper[(0, 1, 2)], 12)
        self.assertEqual([shows_parting(house, (0, 0), (0, 0), orders, most, paper, 12) for most in (1, 2, 3, 6)],
                         [True, False, False, False])


class Worth(unittest.TestCase):
    def test_least_lengths(self):
        for house, start, end, orders in cases():
            for one in orders:
                for other in orders[:3]:
                    numbers = [least_length(house, Task(start, end, picks))
                               for picks in (one, other, sorted(set(one + other)))]
                    told = worth(house, start, end, one, other)
                    self.assertEqual(told, numbers[0] + numbers[1] - numbers[2])
                    self.assertGreaterEqual(told, -distance(house, end, start))

    def test_cases(self):
        house = House([3], [1], [])
        self.assertEqual(worth(house, (0, 0), (1, 3), [(0, 1)], [(1, 1)]), 4 + 4 - 6)
        self.assertEqual(worth(house, (0, 0), (0, 0), [(1, 1)], [(1, 1)]), 4)
        self.assertEqual(worth(House([1], [5], []), (0, 0), (1, 0), [(0, 0)], [(1, 0)]), 5)

    def test_below_zero(self):
        # Each aisle alone is on the way, and for both the walk has to come back in the second one.
        one, other = [(0, height) for height in range(1, 10)], [(1, height) for height in range(1, 10)]
        self.assertEqual(worth(House([10], [1], []), (0, 0), (1, 10), one, other), 11 + 11 - 29)


class Wrong(unittest.TestCase):
    def calls(self):
        return [lambda house, start, end, orders: lot_length(house, start, end, orders, (0,)),
                lambda house, start, end, orders: least_parting(house, start, end, orders, 2),
                lambda house, start, end, orders: parting_paper(house, start, end, orders, 1),
                lambda house, start, end, orders: shows_parting(house, start, end, orders, 2, {}, 0),
                lambda house, start, end, orders: worth(house, start, end, orders[0], orders[-1])]

    def refused(self, error, place, house, start, end, orders):
        for call in self.calls():
            before = (helpers.house_state(house), deepcopy(orders))
            with self.assertRaises(error) as caught:
                call(house, start, end, orders)
            self.assertEqual(caught.exception.place, place)
            self.assertEqual((helpers.house_state(house), orders), before)

    def test_places(self):
        house = House([2, 1], [1], [])
        self.refused(InvalidPlace, (0, 1), house, (0, 1), (9, 9), [[(8, 8)], [(7, 7)]])
        self.refused(InvalidPlace, (9, 9), house, (0, 2), (9, 9), [[(8, 8)], [(7, 7)]])
        self.refused(InvalidPlace, (1, 1), house, (0, 2), (1, 1), [[(0, 0)], [(7, 7)]])
        self.refused(InvalidPlace, (8, 8), house, (0, 0), (1, 3), [[(0, 0), (8, 8), (7, 7)], [(6, 6)]])
        self.refused(InvalidPlace, (8, 8), house, (0, 0), (1, 3), [[(1, 1)], [(0, 1), (8, 8), (0, -1)]])
        self.refused(InvalidPlace, (0, -1), house, (0, 0), (1, 3), [[(1, 1), (0, -1)], [(-1, 0)]])

    def test_places_that_are_not_reached(self):
        self.refused(Unreachable, (1, 0), APART, (0, 0), (1, 0), [[(1, 1)], [(2, 0)]])
        self.refused(Unreachable, (2, 1), APART, (0, 0), (0, 3), [[(0, 1), (2, 1), (1, 1)], [(1, 0)]])
        self.refused(Unreachable, (1, 2), APART, (1, 0), (2, 3), [[(2, 1)], [(2, 0), (1, 2), (1, 1), (0, 0)]])
        self.refused(InvalidPlace, (0, 4), APART, (0, 0), (1, 0), [[(1, 1)], [(0, 4)]])

    def test_orders_that_the_lot_has_not(self):
        for error, house, orders, place in [(InvalidPlace, House([2], [1], []), [[(0, 1)], [(0, 3)]], (0, 3)),
                                            (Unreachable, APART, [[(0, 1)], [(1, 0)]], (1, 0))]:
            with self.assertRaises(error) as caught:
                lot_length(house, (0, 0), (0, 0), orders, (0,))
            self.assertEqual(caught.exception.place, place)

    def test_new_and_nothing_changed(self):
        house, orders = House([1], [1, 1], []), [[(2, 0), (0, 1)], [(1, 0)], [(2, 1)]]
        before = (helpers.house_state(house), deepcopy(orders))
        for call in self.calls():
            first = call(house, (0, 0), (0, 0), orders)
            wanted = deepcopy(first)
            if isinstance(first, dict):
                first.clear()
            if isinstance(first, tuple):
                first[1].clear()
            self.assertEqual(call(house, (0, 0), (0, 0), orders), wanted)
            self.assertEqual((helpers.house_state(house), orders), before)


if __name__ == "__main__":
    unittest.main()
