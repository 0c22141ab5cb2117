"""Points [3] and [23] to [26]: trees, least trees and the round along them."""

import unittest
from itertools import permutations, product

import helpers
from pickaisle.errors import InvalidPlace, Unreachable
from pickaisle.houses import House
from pickaisle.rounds import is_round, walk_length
from pickaisle.tasks import Task
from pickaisle.trees import is_least_tree, is_tree, least_tree, tree_bounds, tree_length, tree_round
from pickaisle.ways import cut_off

EXAMPLE_HOUSE = House([3], [2], [])
EXAMPLE_TASK = Task((0, 0), (1, 0), [(0, 2), (1, 1)])


def cases():
    """The small houses with those of the small tasks that have rounds and few marks."""
    return [(house, task) for house in helpers.small_houses() for task in helpers.small_tasks(house)
            if cut_off(house, task) is None and len(task.marks()) <= 5]


def distances(house, task):
    """The distances of the pairs of marks, from all walks of the house."""
    table = {}
    for one in task.marks():
        best = helpers.least_ways_from(house, one)
        for other in task.marks():
            table[(one, other)] = best[other][0]
    return table


class IsTree(unittest.TestCase):
    def by_definition(self, task, tree):
        marks = task.marks()
        if any(one not in marks or other not in marks or one >= other for one, other in tree):
            return False
        return tree == sorted(tree) and len(tree) == len(marks) - 1 and helpers.hang_together(marks, tree)

    def test_all_lists_of_pairs_of_three_marks(self):
        task = Task((0, 0), (0, 3), [(0, 3), (1, 1)])
        pairs = list(product(task.marks() + [(1, 0)], repeat=2))
        found = 0
        for many in range(4):
            for chosen in product(pairs, repeat=many):
                told = is_tree(task, list(chosen))
                self.assertIs(told, self.by_definition(task, list(chosen)), chosen)
                found += told
        self.assertEqual(found, 3)

    def test_all_orders_of_pairs_of_four_marks(self):
        task = Task((0, 0), (0, 0), [(0, 3), (1, 1), (0, 1)])
        marks = task.marks()
        pairs = [(one, other) for one in marks for other in marks if one < other]
        found = 0
        for many in range(5):
            for chosen in permutations(pairs, many):
                told = is_tree(task, list(chosen))
                self.assertIs(told, self.by_definition(task, list(chosen)), chosen)
                found += told
        self.assertEqual(found, 16)

    def test_one_mark(self):
        task = Task((0, 0), (0, 0), [(0, 0)])
        self.assertIs(is_tree(task, []), True)
        self.assertIs(is_tree(task, [((0, 0), (0, 0))]), False)
        self.assertIs(is_tree(task, [((0, 0), (0, 1))]), False)


class LeastTree(unittest.TestCase):
    def test_example(self):
        self.assertEqual(least_tree(EXAMPLE_HOUSE, EXAMPLE_TASK),
                         [((0, 0), (0, 2)), ((0, 0), (1, 0)), ((1, 0), (1, 1))])

    def test_against_all_trees(self):
        tried = 0
        for house, task in cases():
            table = distances(house, task)
            trees = helpers.all_trees(task.marks())
            lengths = [sum(table[pair] for pair in tree) for tree in trees]
            # Whoever always takes the first pair that can be taken gets the first of all trees in that order.
            first = min(trees, key=lambda tree: sorted((table[pair], pair) for pair in tree))
            found = least_tree(house, task)
            self.assertEqual(found, first)
            self.assertIs(is_tree(task, found), True)
            for tree, length in zip(trees, lengths):
                self.assertEqual(tree_length(house, task, tree), length)
                self.assertIs(is_least_tree(house, task, tree), length == min(lengths))
            self.assertEqual(tree_bounds(house, task)[0], min(lengths))
            tried += 1
        self.assertGreater(tried, 30)

    def test_what_point_24_says(self):
        for house, task in cases():
            table = distances(house, task)
            marks = task.marks()
            for tree in helpers.all_trees(marks):
                told = all(table[inside] <= table[(one, other)] for one in marks for other in marks if one < other
                           for inside in helpers.way_in_tree(tree, one, other))
                self.assertIs(is_least_tree(house, task, tree), told)

    def test_pairs_of_the_same_distance(self):
        house = House([2], [2], [])
        task = Task((0, 0), (1, 2), [(0, 2), (1, 0)])
        self.assertEqual(least_tree(house, task), [((0, 0), (0, 2)), ((0, 0), (1, 0)), ((0, 2), (1, 2))])
        self.assertIs(is_least_tree(house, task, [((0, 0), (1, 0)), ((0, 2), (1, 2)), ((1, 0), (1, 2))]), True)
        self.assertIs(is_least_tree(house, task, [((0, 0), (1, 0)), ((0, 0), (1, 2)), ((0, 2), (1, 2))]), False)

    def test_what_is_no_tree_is_no_least_tree(self):
        tree = least_tree(EXAMPLE_HOUSE, EXAMPLE_TASK)
        for wrong in [[], tree[:-1], tree[::-1], tree + [((0, 2), (1, 1))], tree[:1] * 3, tree + tree[-1:],
                      [(other, one) for one, other in tree], tree[:-1] + [((1, 0), (1, 2))],
                      tree[:-1] + [((7, 7), (8, 8))]]:
            self.assertIs(is_least_tree(EXAMPLE_HOUSE, EXAMPLE_TASK, wrong), False)

    def test_one_mark(self):
        task = Task((0, 0), (0, 0), [])
        self.assertEqual(least_tree(EXAMPLE_HOUSE, task), [])
        self.assertEqual(tree_length(EXAMPLE_HOUSE, task, []), 0)
        self.assertIs(is_least_tree(EXAMPLE_HOUSE, task, []), True)
        self.assertEqual(tree_round(EXAMPLE_HOUSE, task), [(0, 0)])
        self.assertEqual(tree_bounds(EXAMPLE_HOUSE, task), (0, 0))


class TreeRound(unittest.TestCase):
    def by_the_words(self, house, task):
        """The round, with the way to the end looked up anew at each mark, along the least of all walks."""
        tree = least_tree(house, task)
        ways = {mark: helpers.least_ways_from(house, mark) for mark in task.marks()}

        def way_to_end(mark):
            return sorted(set(sum(helpers.way_in_tree(tree, mark, task.end), ())) - {mark})

        def beside(mark):
            return sorted(set(sum([pair for pair in tree if mark in pair], ())) - {mark})

        def visit(mark, origin):
            walk = []
            for other in beside(mark):
                if other != origin and other not in way_to_end(mark):
                    walk += ways[mark][other][1][1:] + visit(other, mark) + ways[other][mark][1][1:]
            return walk

        mark, origin, walk = task.start, None, [task.start]
        while True:
            walk += visit(mark, origin)
            if mark == task.end:
                return walk
            ahead = [other for other in beside(mark) if other in way_to_end(mark)]
            self.assertEqual(len(ahead), 1)
            walk += ways[mark][ahead[0]][1][1:]
            mark, origin = ahead[0], mark

    def test_small_houses(self):
        for house, task in cases():
            self.assertEqual(tree_round(house, task), self.by_the_words(house, task))

    def test_bounds(self):
        for house, task in cases():
            table = distances(house, task)
            walk, tree = tree_round(house, task), least_tree(house, task)
            length = walk_length(house, walk)
            self.assertIs(is_round(house, task, walk), True)
            self.assertEqual(tree_bounds(house, task), (tree_length(house, task, tree), length))
            once = sum(table[pair] for pair in helpers.way_in_tree(tree, task.start, task.end))
            self.assertEqual(length, 2 * tree_length(house, task, tree) - once)

    def test_example(self):
        self.assertEqual(tree_round(EXAMPLE_HOUSE, EXAMPLE_TASK),
                         [(0, 0), (0, 1), (0, 2), (0, 1), (0, 0), (1, 0), (1, 1), (1, 0)])
        self.assertEqual(tree_bounds(EXAMPLE_HOUSE, EXAMPLE_TASK), (5, 8))

    def test_side_trips_at_the_end(self):
        house = House([4], [], [])
        self.assertEqual(tree_round(house, Task((0, 4), (0, 0), [(0, 2)])),
                         [(0, 4), (0, 3), (0, 2), (0, 1), (0, 0)])
        house = House([2, 2], [1, 1], [])
        task = Task((1, 2), (1, 2), [(1, 1), (0, 2), (0, 3), (2, 2), (1, 3)])
        self.assertEqual(tree_round(house, task),
                         [(1, 2), (0, 2), (0, 3), (0, 2), (1, 2), (1, 1), (1, 2), (1, 3), (1, 2), (2, 2), (1, 2)])

    def test_there_and_back_may_be_different_ways(self):
        house = House([1, 1], [1, 1], [("over", 0, 1), ("up", 1, 0)])
        self.assertEqual(tree_round(house, Task((0, 1), (0, 1), [(2, 1)])),
                         [(0, 1), (0, 0), (1, 0), (2, 0), (2, 1), (1, 1), (1, 2), (0, 2), (0, 1)])

    def test_the_greatest_task(self):
        house = House([40, 40], [40] * 11, [])
        task = Task((0, 0), (11, 80), [(number % 12, (number * 37) % 81) for number in range(60)])
        low, high = tree_bounds(house, task)
        self.assertTrue(low <= high <= 2 * low)
        self.assertIs(is_least_tree(house, task, least_tree(house, task)), True)


class Wrong(unittest.TestCase):
    def each_call(self, house, task):
        tree = []
        return [lambda: least_tree(house, task), lambda: tree_length(house, task, tree),
                lambda: is_least_tree(house, task, tree), lambda: tree_round(house, task),
                lambda: tree_bounds(house, task)]

    def test_unreachable(self):
        house = House([4], [1], [("up", 0, 1), ("up", 1, 1)])
        for task in [Task((0, 0), (0, 4), [(0, 3)]), Task((0, 0), (0, 0), [(1, 3), (0, 3), (0, 1)])]:
            before = (helpers.house_state(house), helpers.task_state(task))
            for call in self.each_call(house, task):
                with self.assertRaises(Unreachable) as caught:
                    call()
                self.assertEqual(caught.exception.place, cut_off(house, task))
            self.assertEqual((helpers.house_state(house), helpers.task_state(task)), before)

    def test_a_task_that_does_not_fit(self):
        house = House([2], [1], [("up", 0, 0), ("up", 1, 0)])
        for task, wrong in [(Task((0, 1), (9, 9), []), (0, 1)), (Task((0, 0), (0, 2), [(8, 8)]), (8, 8))]:
            for call in self.each_call(house, task):
                with self.assertRaises(InvalidPlace) as caught:
                    call()
                self.assertEqual(caught.exception.place, wrong)

    def test_nothing_changes(self):
        tree = least_tree(EXAMPLE_HOUSE, EXAMPLE_TASK)
        before = (helpers.house_state(EXAMPLE_HOUSE), helpers.task_state(EXAMPLE_TASK), list(tree))
        is_tree(EXAMPLE_TASK, tree)
        is_least_tree(EXAMPLE_HOUSE, EXAMPLE_TASK, tree)
        tree_length(EXAMPLE_HOUSE, EXAMPLE_TASK, tree)
        least_tree(EXAMPLE_HOUSE, EXAMPLE_TASK).clear()
        tree_round(EXAMPLE_HOUSE, EXAMPLE_TASK).clear()
        self.assertEqual((helpers.house_state(EXAMPLE_HOUSE), helpers.task_state(EXAMPLE_TASK), tree), before)
        self.assertEqual(least_tree(EXAMPLE_HOUSE, EXAMPLE_TASK), tree)


if __name__ == "__main__":
    unittest.main()
