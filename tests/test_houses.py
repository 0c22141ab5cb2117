"""Points [3], [4] and [6] to [10]: houses, places and links."""

import unittest

import helpers
from pickaisle.errors import InvalidHouse, InvalidLink, InvalidPlace, TooLarge
from pickaisle.houses import House


def big_house(closed):
    return House([40, 40], [40] * 11, closed)


def up_links(many):
    return [("up", number // 80, number % 80) for number in range(many)]


class WhichHousesAreTaken(unittest.TestCase):
    def refused(self, lengths, gaps, closed):
        before = (list(lengths), list(gaps), list(closed))
        with self.assertRaises(InvalidHouse):
            House(lengths, gaps, closed)
        self.assertEqual((lengths, gaps, closed), before)

    def test_number_of_stretches(self):
        self.refused([], [1], [])
        self.assertEqual(House([1], [1], []).lengths, [1])
        self.assertEqual(House([1, 40], [1], []).lengths, [1, 40])
        self.refused([1, 1, 1], [1], [])

    def test_lengths_of_stretches(self):
        for wrong in [0, -1, 41, 1000]:
            self.refused([wrong], [], [])
            self.refused([wrong, 5], [], [])
            self.refused([5, wrong], [], [])
        self.assertEqual(House([40, 1], [], []).top, 41)
        self.assertEqual(House([40, 40], [], []).top, 80)

    def test_number_of_aisles(self):
        self.assertEqual(House([1], [], []).aisles, 1)
        self.assertEqual(House([1], [1] * 11, []).aisles, 12)
        self.refused([1], [1] * 12, [])

    def test_widths_of_gaps(self):
        for wrong in [0, -1, 41]:
            self.refused([1], [wrong], [])
            self.refused([1], [1, 2, wrong], [])
        self.assertEqual(House([1], [1, 40], []).gaps, [1, 40])

    def test_number_of_closed_links(self):
        self.assertEqual(len(big_house(up_links(200)).closed), 200)
        self.refused([40, 40], [40] * 11, up_links(201))

    def test_closed_links_are_different(self):
        self.refused([2], [1], [("up", 0, 1), ("over", 0, 0), ("up", 0, 1)])

    def test_closed_links_are_links_of_the_house(self):
        right = [("up", 0, 0), ("up", 1, 2), ("over", 0, 0), ("over", 0, 1), ("over", 0, 3)]
        self.assertEqual(House([1, 2], [4], right).closed, sorted(right))
        for wrong in [("up", -1, 0), ("up", 2, 0), ("up", 0, -1), ("up", 0, 3), ("over", -1, 0), ("over", 1, 0),
                      ("over", 0, 2), ("over", 0, 4), ("over", 0, -1), ("down", 0, 0), ("", 0, 0), ("Up", 0, 0)]:
            self.refused([1, 2], [4], [wrong])
            self.refused([1, 2], [4], right + [wrong])
        self.refused([1], [], [("over", 0, 0)])


class WhatAHouseTells(unittest.TestCase):
    def test_one_stretch(self):
        house = House([3], [2, 5], [("up", 1, 2), ("over", 0, 3)])
        self.assertEqual(helpers.house_state(house), ([3], [2, 5], [("over", 0, 3), ("up", 1, 2)], 3, 3))
        self.assertEqual(house.crosses(), [0, 3])

    def test_two_stretches(self):
        house = House([3, 40], [], [])
        self.assertEqual(helpers.house_state(house), ([3, 40], [], [], 43, 1))
        self.assertEqual(house.crosses(), [0, 3, 43])

    def test_places_and_cross_places(self):
        house = House([2, 1], [4], [])
        tried = [(aisle, height) for aisle in range(-2, 4) for height in range(-2, 6)]
        places = [(aisle, height) for aisle in [0, 1] for height in [0, 1, 2, 3]]
        self.assertEqual([place for place in tried if house.is_place(place)], places)
        self.assertEqual([place for place in tried if house.is_cross(place)],
                         [(aisle, height) for aisle in [0, 1] for height in [0, 2, 3]])
        self.assertEqual(house.places(), places)
        self.assertIs(house.is_place((0, 1)), True)
        self.assertIs(house.is_cross((0, 1)), False)
        self.assertIs(house.is_cross((2, 0)), False)

    def test_links(self):
        for house in helpers.small_houses():
            links = helpers.all_links(house)
            for word in ["up", "over", "down", ""]:
                for aisle in range(-2, 6):
                    for height in range(-2, 6):
                        link = (word, aisle, height)
                        self.assertIs(house.is_link(link), link in links)
                        self.assertIs(house.is_closed(link), link in house.closed)
            self.assertEqual(house.walked_links(), sorted(link for link in links if link not in house.closed))

    def test_walked_links_in_order(self):
        self.assertEqual(House([1], [1], [("up", 0, 0)]).walked_links(),
                         [("over", 0, 0), ("over", 0, 1), ("up", 1, 0)])

    def test_ends_and_lengths_of_links(self):
        for house in helpers.small_houses():
            for link, (one, other, length) in helpers.all_links(house).items():
                self.assertEqual(house.ends_of(link), (one, other))
                self.assertEqual(house.length_of(link), length)

    def test_ends_and_lengths_of_what_is_no_link(self):
        house = House([2, 1], [4], [("up", 0, 0)])
        for wrong in [("up", 0, 3), ("over", 0, 1), ("over", 1, 0), ("left", 0, 0)]:
            with self.assertRaises(InvalidLink):
                house.ends_of(wrong)
            with self.assertRaises(InvalidLink):
                house.length_of(wrong)

    def test_link_between(self):
        for house in helpers.small_houses():
            joined = {}
            for link, (one, other, _) in helpers.all_links(house).items():
                if link not in house.closed:
                    joined[(one, other)] = joined[(other, one)] = link
            tried = [(aisle, height) for aisle in range(-1, 5) for height in range(-1, 5)]
            for one in tried:
                for other in tried:
                    self.assertEqual(house.link_between(one, other), joined.get((one, other)))

    def test_beside(self):
        for house in helpers.small_houses():
            for place in helpers.all_places(house):
                self.assertEqual(house.beside(place), helpers.steps_from(house, place))

    def test_beside_in_order(self):
        house = House([1, 1], [2, 3], [])
        self.assertEqual(house.beside((1, 1)), [((0, 1), 2), ((1, 0), 1), ((1, 2), 1), ((2, 1), 3)])

    def test_beside_what_is_no_place(self):
        house = House([2], [1], [])
        for wrong in [(2, 0), (-1, 0), (0, 3), (1, -1)]:
            with self.assertRaises(InvalidPlace) as caught:
                house.beside(wrong)
            self.assertEqual(caught.exception.place, wrong)


class OtherHouses(unittest.TestCase):
    def test_with_closed(self):
        house = House([2], [3], [("up", 1, 0)])
        self.assertEqual(helpers.house_state(house.with_closed(("over", 0, 2))),
                         ([2], [3], [("over", 0, 2), ("up", 1, 0)], 2, 2))
        self.assertEqual(house.closed, [("up", 1, 0)])

    def test_with_closed_refuses(self):
        house = House([2], [3], [("up", 1, 0)])
        for wrong in [("up", 1, 0), ("up", 1, 2), ("over", 1, 0), ("over", 0, 1), ("side", 0, 0)]:
            with self.assertRaises(InvalidLink):
                house.with_closed(wrong)
        self.assertEqual(house.closed, [("up", 1, 0)])

    def test_two_hundred_closed_links_and_one_more(self):
        house = big_house(up_links(199)).with_closed(("over", 0, 40))
        self.assertEqual(len(house.closed), 200)
        with self.assertRaises(TooLarge):
            house.with_closed(("over", 0, 0))
        with self.assertRaises(InvalidLink):
            house.with_closed(("over", 0, 40))
        with self.assertRaises(InvalidLink):
            house.with_closed(("over", 11, 0))
        self.assertEqual(house.closed, [("over", 0, 40)] + up_links(199))
        self.assertEqual(house.without_closed(("up", 0, 0)).with_closed(("over", 0, 0)).closed[:2],
                         [("over", 0, 0), ("over", 0, 40)])

    def test_without_closed(self):
        house = House([2], [3], [("up", 1, 0), ("over", 0, 0)])
        self.assertEqual(house.without_closed(("over", 0, 0)).closed, [("up", 1, 0)])
        self.assertEqual(house.closed, [("over", 0, 0), ("up", 1, 0)])
        for wrong in [("up", 0, 0), ("up", 9, 9), ("over", 0, 1)]:
            with self.assertRaises(InvalidLink):
                house.without_closed(wrong)
        self.assertEqual(house.closed, [("over", 0, 0), ("up", 1, 0)])

    def test_same_as(self):
        closed = [("up", 1, 0), ("over", 0, 0)]
        house = House([2, 1], [3], closed)
        self.assertIs(house.same_as(House([2, 1], [3], closed[::-1])), True)
        self.assertIs(house.with_closed(("up", 0, 0)).without_closed(("up", 0, 0)).same_as(house), True)
        for other in [House([2, 2], [3], closed), House([3], [3], closed), House([2, 1], [4], closed),
                      House([2, 1], [3, 3], closed), House([2, 1], [3], closed[:1]), House([2, 1], [3], [])]:
            self.assertIs(house.same_as(other), False)
            self.assertIs(other.same_as(house), False)


class NothingChanges(unittest.TestCase):
    def test_lists_that_were_passed(self):
        lengths, gaps, closed = [2, 1], [3], [("up", 1, 0), ("over", 0, 0)]
        house = House(lengths, gaps, closed)
        self.assertEqual((lengths, gaps, closed), ([2, 1], [3], [("up", 1, 0), ("over", 0, 0)]))
        before = helpers.house_state(house)
        lengths.append(9)
        gaps[0] = 9
        closed.clear()
        self.assertEqual(helpers.house_state(house), before)
        self.assertEqual(house.crosses(), [0, 2, 3])

    def test_lists_that_were_returned(self):
        house = House([2, 1], [3], [("up", 1, 0)])
        told = [house.lengths, house.gaps, house.closed, house.crosses(), house.places(), house.walked_links(),
                house.beside((0, 0))]
        copies = [list(row) for row in told]
        for row in told:
            row.clear()
        self.assertEqual([house.lengths, house.gaps, house.closed, house.crosses(), house.places(),
                          house.walked_links(), house.beside((0, 0))], copies)


if __name__ == "__main__":
    unittest.main()
