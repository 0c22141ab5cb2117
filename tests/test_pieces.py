"""Points [3], [5] and [29] to [31]: stretches, pieces and options."""

import unittest
from itertools import product

import helpers
from pickaisle.houses import House
from pickaisle.pieces import best_options, ends_of_stretch, is_free, marks_inside, options_of, pieces_of
from pickaisle.tasks import Task

EXAMPLE_HOUSE = House([10], [4], [])
EXAMPLE_TASK = Task((0, 0), (0, 0), [(1, 3), (1, 4), (1, 9)])
TWO = House([3, 4], [1], [])
TWO_TASK = Task((0, 3), (1, 7), [(0, 0), (0, 1), (0, 2), (0, 3), (0, 4), (0, 6), (0, 7), (1, 5)])


def stretches(house):
    return [(aisle, stretch) for aisle in range(house.aisles) for stretch in range(len(house.lengths))]


def closed_ups(aisle, *heights):
    return [("up", aisle, height) for height in heights]


class Stretches(unittest.TestCase):
    def test_ends(self):
        self.assertEqual(ends_of_stretch(EXAMPLE_HOUSE, 0), (0, 10))
        self.assertEqual([ends_of_stretch(TWO, 0), ends_of_stretch(TWO, 1)], [(0, 3), (3, 7)])
        self.assertEqual(ends_of_stretch(House([1], [], []), 0), (0, 1))

    def test_marks_inside_are_picks_between_the_ends(self):
        self.assertEqual(marks_inside(EXAMPLE_HOUSE, EXAMPLE_TASK, 1, 0), [3, 4, 9])
        self.assertEqual(marks_inside(EXAMPLE_HOUSE, EXAMPLE_TASK, 0, 0), [])
        self.assertEqual([marks_inside(TWO, TWO_TASK, 0, 0), marks_inside(TWO, TWO_TASK, 0, 1)], [[1, 2], [4, 6]])
        self.assertEqual([marks_inside(TWO, TWO_TASK, 1, 0), marks_inside(TWO, TWO_TASK, 1, 1)], [[], [5]])

    def test_pieces(self):
        self.assertEqual(pieces_of(EXAMPLE_HOUSE, EXAMPLE_TASK, 1, 0), [(0, 3), (3, 4), (4, 9), (9, 10)])
        self.assertEqual(pieces_of(EXAMPLE_HOUSE, EXAMPLE_TASK, 0, 0), [(0, 10)])
        self.assertEqual(pieces_of(TWO, TWO_TASK, 0, 0), [(0, 1), (1, 2), (2, 3)])
        self.assertEqual(pieces_of(TWO, TWO_TASK, 0, 1), [(3, 4), (4, 6), (6, 7)])
        self.assertEqual(pieces_of(TWO, TWO_TASK, 1, 0), [(0, 3)])

    def test_free(self):
        house = House([5], [1], [("up", 0, 2), ("over", 0, 0), ("up", 1, 0), ("up", 1, 4)])
        told = [(low, high) for low in range(6) for high in range(low + 1, 6) if is_free(house, 0, (low, high))]
        self.assertEqual(told, [(0, 1), (0, 2), (1, 2), (3, 4), (3, 5), (4, 5)])
        told = [(low, high) for low in range(6) for high in range(low + 1, 6) if is_free(house, 1, (low, high))]
        self.assertEqual(told, [(1, 2), (1, 3), (1, 4), (2, 3), (2, 4), (3, 4)])
        self.assertIs(is_free(house, 0, (0, 2)), True)
        self.assertIs(is_free(house, 0, (0, 3)), False)


class Options(unittest.TestCase):
    def test_the_example(self):
        self.assertEqual(options_of(EXAMPLE_HOUSE, EXAMPLE_TASK, 1, 0), [
            (10, 1, 1, True, None), (20, 2, 2, True, None), (14, 0, 2, False, (0, 3)), (18, 2, 2, False, (3, 4)),
            (10, 2, 2, False, (4, 9)), (18, 2, 0, False, (9, 10))])
        self.assertEqual([option[4] for option in best_options(EXAMPLE_HOUSE, EXAMPLE_TASK, 1, 0)],
                         [None, None, (0, 3), (4, 9), (9, 10)])

    def test_no_marks_inside(self):
        wanted = [(10, 1, 1, True, None), (20, 2, 2, True, None), (0, 0, 0, False, (0, 10))]
        self.assertEqual(options_of(EXAMPLE_HOUSE, EXAMPLE_TASK, 0, 0), wanted)
        self.assertEqual(best_options(EXAMPLE_HOUSE, EXAMPLE_TASK, 0, 0), wanted)
        house = House([10], [4], closed_ups(0, 7))
        self.assertEqual(options_of(house, EXAMPLE_TASK, 0, 0), wanted[2:])

    def test_marks_at_the_ends_part_nothing(self):
        task = Task((0, 0), (0, 1), [(0, 1), (0, 0)])
        self.assertEqual(options_of(House([1], [], []), task, 0, 0),
                         [(1, 1, 1, True, None), (2, 2, 2, True, None), (0, 0, 0, False, (0, 1))])

    def test_the_second_stretch(self):
        self.assertEqual(options_of(TWO, TWO_TASK, 0, 1), [
            (4, 1, 1, True, None), (8, 2, 2, True, None), (6, 0, 2, False, (3, 4)), (4, 2, 2, False, (4, 6)),
            (6, 2, 0, False, (6, 7))])
        self.assertEqual(options_of(TWO, TWO_TASK, 1, 1), [
            (4, 1, 1, True, None), (8, 2, 2, True, None), (4, 0, 2, False, (3, 5)), (4, 2, 0, False, (5, 7))])

    def test_a_closed_link_in_each_piece(self):
        pieces = [(0, 3), (3, 4), (4, 9), (9, 10)]
        wanted = [(14, 0, 2, False, (0, 3)), (18, 2, 2, False, (3, 4)), (10, 2, 2, False, (4, 9)),
                  (18, 2, 0, False, (9, 10))]
        for low, high in pieces:
            for height in range(low, high):
                house = House([10], [4], closed_ups(1, height))
                options = [wanted[pieces.index((low, high))]]
                self.assertEqual(options_of(house, EXAMPLE_TASK, 1, 0), options)
                self.assertEqual(best_options(house, EXAMPLE_TASK, 1, 0), options)

    def test_two_closed_links(self):
        one_piece = House([10], [4], closed_ups(1, 4, 8))
        self.assertEqual(options_of(one_piece, EXAMPLE_TASK, 1, 0), [(10, 2, 2, False, (4, 9))])
        two_pieces = House([10], [4], closed_ups(1, 3, 8))
        self.assertEqual(options_of(two_pieces, EXAMPLE_TASK, 1, 0), [])
        self.assertEqual(best_options(two_pieces, EXAMPLE_TASK, 1, 0), [])

    def test_the_first_of_the_best(self):
        task = Task((0, 0), (0, 0), [(0, 2), (0, 4), (0, 6), (0, 7)])
        self.assertEqual([option[4] for option in best_options(House([9], [], []), task, 0, 0)],
                         [None, None, (0, 2), (2, 4), (7, 9)])

    def test_best_options_by_their_words(self):
        for house in helpers.small_houses() + [House([7], [1], []), House([3, 5], [2], [])]:
            for task in helpers.small_tasks(house):
                for aisle, stretch in stretches(house):
                    options = options_of(house, task, aisle, stretch)
                    best = [option for at, option in enumerate(options)
                            if not any(other[1:4] == option[1:4] and (other[0], number) < (option[0], at)
                                       for number, other in enumerate(options))]
                    self.assertEqual(best_options(house, task, aisle, stretch), best)
                    self.assertLessEqual(len(best), 6)

    def test_some_option_is_as_good_as_any_numbers(self):
        for length, heights, closed in [(3, [], []), (3, [1], []), (4, [1, 2], []), (4, [1, 3], [2]), (4, [2], [1]),
                                        (5, [1, 2, 4], []), (5, [2, 3], [4]), (5, [3], [0, 2])]:
            house = House([length], [1], closed_ups(1, *closed))
            task = Task((0, 0), (0, length), [(1, height) for height in heights])
            options = options_of(house, task, 1, 0)
            for numbers in product((0, 1, 2), repeat=length):
                if not any(numbers[height] for height in closed) and is_good(numbers, heights):
                    self.assertTrue(any(replaces(option, numbers) for option in options), (numbers, options))

    def test_each_option_is_made_of_numbers(self):
        for length, heights, closed in [(3, [], []), (4, [1, 3], [2]), (5, [1, 2, 4], []), (6, [3], [])]:
            house = House([length], [1], closed_ups(1, *closed))
            task = Task((0, 0), (0, length), [(1, height) for height in heights])
            for option in options_of(house, task, 1, 0):
                whole, low, high, joins, left_out = option
                left = range(*left_out) if left_out else []
                numbers = [0 if height in left else max(low, high, 1) for height in range(length)]
                if len(left) < length:
                    self.assertTrue(is_good(numbers, heights))
                self.assertFalse(any(numbers[height] for height in closed))
                self.assertEqual((sum(numbers), numbers[0], numbers[-1], min(numbers) > 0), (whole, low, high, joins))

    def test_at_the_bounds(self):
        house = House([40, 40], [40] * 11, closed_ups(11, 1))
        task = Task((0, 0), (11, 80), [(11, height) for height in range(1, 31)] +
                    [(11, height) for height in range(41, 71)])
        self.assertEqual(options_of(house, task, 11, 0), [(78, 2, 2, False, (1, 2))])
        self.assertEqual(len(pieces_of(house, task, 11, 0)), 31)
        self.assertEqual(len(options_of(house, task, 11, 1)), 33)
        self.assertEqual(best_options(house, task, 11, 1), [
            (40, 1, 1, True, None), (80, 2, 2, True, None), (78, 0, 2, False, (40, 41)), (78, 2, 2, False, (41, 42)),
            (60, 2, 0, False, (70, 80))])
        self.assertEqual(marks_inside(house, task, 11, 1), list(range(41, 71)))
        self.assertEqual(ends_of_stretch(house, 1), (40, 80))
        self.assertIs(is_free(house, 11, (2, 80)), True)


def is_good(numbers, heights):
    """Whether the sums inside are even, and all that is walked hangs together with an end, with the marks."""
    length = len(numbers)
    if any((numbers[height - 1] + numbers[height]) % 2 for height in range(1, length)):
        return False
    low = next((height for height in range(length) if numbers[height] == 0), length)
    high = next((height + 1 for height in reversed(range(length)) if numbers[height] == 0), 0)
    if any(numbers[low:high]):
        return False
    return all(height <= low or height >= high for height in heights)


def replaces(option, numbers):
    """Whether the option is no longer, no more at the ends, by 0 or 2, and joins if the numbers do."""
    length, low, high, joins, _ = option
    return (length <= sum(numbers) and numbers[0] - low in (0, 2) and numbers[-1] - high in (0, 2)
            and (joins or min(numbers) == 0))


class Wrong(unittest.TestCase):
    def test_a_task_that_does_not_fit(self):
        for house in [House([3], [1], []), House([2, 2], [1, 1], [("up", 0, 1)])]:
            for told in [marks_inside, pieces_of, options_of, best_options]:
                helpers.refuse_wrong_tasks(self, house, lambda house, task, told=told: told(house, task, 0, 0))

    def test_nothing_changes(self):
        for told in [marks_inside, pieces_of, options_of, best_options]:
            helpers.assert_new_and_nothing_changed(self, TWO, TWO_TASK, lambda house, task: told(house, task, 0, 1))


if __name__ == "__main__":
    unittest.main()
