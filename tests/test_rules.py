"""Points [3], [5], [27] and [28]: plain houses and tasks, the rules and the plain bound."""

import unittest
from itertools import combinations

import helpers
from pickaisle.errors import InvalidTask
from pickaisle.houses import House
from pickaisle.rounds import is_round, walk_length
from pickaisle.rules import is_plain, plain_bound, rule_length, rule_round
from pickaisle.tasks import Task

RULES = ["back", "through", "middle", "gap"]
EXAMPLE_HOUSE = House([4], [1, 1], [])
EXAMPLE_TASK = Task((0, 0), (0, 0), [(0, 4), (1, 1), (2, 3)])
WIDE = House([6], [2, 3, 1], [])
SPREAD = [(0, 2), (1, 1), (1, 3), (1, 5), (2, 4), (3, 6)]


def walk_past(*stops):
    """The walk along straight lines from stop to stop."""
    walk = [stops[0]]
    for aisle, height in stops[1:]:
        while walk[-1] != (aisle, height):
            one, low = walk[-1]
            walk.append((one + (aisle > one) - (aisle < one), low + (height > low) - (height < low)))
    return walk


def plain_task(aisle, picks):
    return Task((aisle, 0), (aisle, 0), picks)


def all_small_tasks(house, most):
    """All plain tasks of the house with up to so many picks."""
    return [plain_task(aisle, list(picks)) for aisle in range(house.aisles) for many in range(most + 1)
            for picks in combinations(house.places(), many)]


class IsPlain(unittest.TestCase):
    def test_plain(self):
        self.assertIs(is_plain(EXAMPLE_HOUSE, EXAMPLE_TASK), True)
        self.assertIs(is_plain(House([1], [], []), plain_task(0, [])), True)
        self.assertIs(is_plain(WIDE, plain_task(3, SPREAD)), True)

    def test_not_plain(self):
        for house, task in not_plain():
            self.assertIs(is_plain(house, task), False)


def not_plain():
    """Houses and tasks that fit one another but are not plain, one for each reason."""
    return [
        (House([2, 2], [1], []), plain_task(0, [(1, 1)])),
        (House([4], [1], [("up", 1, 3)]), plain_task(0, [(1, 1)])),
        (House([4], [1], [("over", 0, 4)]), plain_task(0, [])),
        (House([4], [1], []), Task((0, 4), (0, 4), [(1, 1)])),
        (House([4], [1], []), Task((0, 0), (1, 0), [(1, 1)])),
        (House([4], [1], []), Task((0, 0), (0, 4), [])),
    ]


class Rounds(unittest.TestCase):
    def told(self, house, task, rule, *stops):
        start = task.start
        self.assertEqual(rule_round(house, task, rule), walk_past(start, *stops, start), rule)

    def test_the_example(self):
        lengths = [rule_length(EXAMPLE_HOUSE, EXAMPLE_TASK, rule) for rule in RULES]
        self.assertEqual(lengths, [20, 18, 14, 14])
        self.assertEqual(rule_round(EXAMPLE_HOUSE, plain_task(0, [(1, 2)]), "through"),
                         [(0, 0), (1, 0), (1, 1), (1, 2), (1, 1), (1, 0), (0, 0)])

    def test_no_picks(self):
        for rule in RULES:
            self.assertEqual(rule_round(WIDE, plain_task(2, []), rule), [(2, 0)])
            self.assertEqual(rule_length(WIDE, plain_task(2, []), rule), 0)

    def test_back(self):
        task = plain_task(0, SPREAD)
        self.told(WIDE, task, "back", (0, 2), (0, 0), (1, 0), (1, 5), (1, 0), (2, 0), (2, 4), (2, 0),
                  (3, 0), (3, 6), (3, 0))
        task = plain_task(2, [(3, 1), (1, 6), (1, 2), (2, 0)])
        self.told(WIDE, task, "back", (1, 0), (1, 6), (1, 0), (3, 0), (3, 1), (3, 0))

    def test_through_an_even_number(self):
        self.told(WIDE, plain_task(0, SPREAD), "through", (0, 6), (1, 6), (1, 0), (2, 0), (2, 6), (3, 6), (3, 0))
        self.told(WIDE, plain_task(2, [(0, 0), (3, 1)]), "through", (0, 0), (0, 6), (3, 6), (3, 0))

    def test_through_an_odd_number(self):
        self.told(WIDE, plain_task(1, [(0, 1), (2, 5), (3, 2), (3, 4)]), "through",
                  (0, 0), (0, 6), (2, 6), (2, 0), (3, 0), (3, 4), (3, 0))
        self.told(WIDE, plain_task(3, [(1, 0)]), "through", (1, 0))
        self.told(WIDE, plain_task(3, [(1, 6), (1, 1)]), "through", (1, 0), (1, 6), (1, 0))

    def test_one_used_aisle(self):
        for rule in RULES:
            self.told(WIDE, plain_task(2, [(0, 1), (0, 4)]), rule, (0, 0), (0, 4), (0, 0))
            self.told(WIDE, plain_task(1, [(1, 5)]), rule, (1, 5))
            self.told(WIDE, plain_task(1, [(1, 0)]), rule)

    def test_two_used_aisles(self):
        for rule in ["middle", "gap"]:
            self.told(WIDE, plain_task(2, [(1, 0), (3, 2)]), rule, (1, 0), (1, 6), (3, 6), (3, 0))

    def test_start_ahead_of_those_between(self):
        task = plain_task(0, SPREAD)
        self.told(WIDE, task, "middle", (0, 6), (1, 6), (1, 5), (1, 6), (2, 6), (2, 4), (2, 6), (3, 6), (3, 0),
                  (1, 0), (1, 3), (1, 0))
        self.told(WIDE, task, "gap", (0, 6), (1, 6), (1, 3), (1, 6), (2, 6), (2, 4), (2, 6), (3, 6), (3, 0),
                  (1, 0), (1, 1), (1, 0))

    def test_start_between(self):
        picks = SPREAD + [(2, 1)]
        self.told(WIDE, plain_task(1, picks), "middle", (1, 3), (1, 0), (0, 0), (0, 6), (1, 6), (1, 5), (1, 6),
                  (2, 6), (2, 4), (2, 6), (3, 6), (3, 0), (2, 0), (2, 1), (2, 0))
        self.told(WIDE, plain_task(2, picks), "middle", (2, 1), (2, 0), (1, 0), (1, 3), (1, 0), (0, 0), (0, 6),
                  (1, 6), (1, 5), (1, 6), (2, 6), (2, 4), (2, 6), (3, 6), (3, 0))
        self.told(WIDE, plain_task(2, picks), "gap", (2, 1), (2, 0), (1, 0), (1, 1), (1, 0), (0, 0), (0, 6),
                  (1, 6), (1, 3), (1, 6), (2, 6), (2, 4), (2, 6), (3, 6), (3, 0))

    def test_start_beside_all_used_aisles(self):
        picks = [(1, 1), (2, 1), (2, 5), (3, 3)]
        for rule in ["middle", "gap"]:
            self.told(WIDE, plain_task(0, picks), rule, (1, 0), (1, 6), (2, 6), (2, 5), (2, 6), (3, 6), (3, 0),
                      (2, 0), (2, 1), (2, 0))
        picks = [(0, 1), (1, 1), (1, 5), (2, 3)]
        for rule in ["middle", "gap"]:
            self.told(WIDE, plain_task(3, picks), rule, (1, 0), (1, 1), (1, 0), (0, 0), (0, 6), (1, 6), (1, 5),
                      (1, 6), (2, 6), (2, 0))

    def test_a_pick_at_half_the_top_is_a_low_one(self):
        self.told(WIDE, plain_task(0, [(0, 1), (1, 3), (2, 1)]), "middle",
                  (0, 6), (2, 6), (2, 0), (1, 0), (1, 3), (1, 0))
        odd = House([5], [1, 1], [])
        self.told(odd, plain_task(0, [(0, 1), (1, 3), (2, 1)]), "middle",
                  (0, 5), (1, 5), (1, 3), (1, 5), (2, 5), (2, 0))
        self.told(odd, plain_task(0, [(0, 1), (1, 2), (2, 1)]), "middle",
                  (0, 5), (2, 5), (2, 0), (1, 0), (1, 2), (1, 0))

    def test_picks_at_the_heights_0_and_top(self):
        for rule in ["middle", "gap"]:
            self.told(WIDE, plain_task(0, [(0, 1), (1, 0), (1, 6), (2, 6), (3, 1)]), rule, (0, 6), (3, 6), (3, 0))

    def test_the_lowest_of_the_greatest_pieces(self):
        self.told(WIDE, plain_task(0, [(0, 1), (1, 2), (1, 4), (2, 1)]), "gap", (0, 6), (1, 6), (1, 2), (1, 6),
                  (2, 6), (2, 0))
        self.told(WIDE, plain_task(0, [(0, 1), (1, 1), (1, 2), (1, 6), (2, 1)]), "gap", (0, 6), (2, 6), (2, 0),
                  (1, 0), (1, 2), (1, 0))


class Lengths(unittest.TestCase):
    def setUp(self):
        self.house = House([3], [1, 2], [])
        self.tasks = all_small_tasks(self.house, 3)

    def test_each_rule_gives_a_round(self):
        for task in self.tasks:
            for rule in RULES:
                walk = rule_round(self.house, task, rule)
                self.assertIs(is_round(self.house, task, walk), True)
                self.assertEqual(rule_length(self.house, task, rule), walk_length(self.house, walk))

    def test_gap_is_never_longer_than_middle(self):
        house = House([6], [1, 1], [])
        tasks = [plain_task(1, [(0, 1), (2, 1)] + [(1, height) for height in heights])
                 for many in range(8) for heights in combinations(range(7), many)]
        shorter = 0
        for used, task in [(self.house, task) for task in self.tasks] + [(house, task) for task in tasks]:
            gap, middle = [rule_length(used, task, rule) for rule in ["gap", "middle"]]
            self.assertLessEqual(gap, middle)
            shorter += gap < middle
        self.assertGreater(shorter, 0)

    def test_no_round_is_shorter_than_the_bound(self):
        met = 0
        for task in all_small_tasks(self.house, 2) + self.tasks[::7]:
            least = helpers.least_round_length(self.house, task)
            self.assertLessEqual(plain_bound(self.house, task), least)
            met += plain_bound(self.house, task) == least
        self.assertGreater(met, 0)

    def test_the_bound_by_its_words(self):
        for task in self.tasks:
            aisles = sorted({aisle for aisle, _ in task.picks})
            ends = [task.start[0]] + aisles
            wanted = 2 * sum([1, 2][min(ends):max(ends)])
            for used in aisles:
                heights = sorted({0, 3} | {height for aisle, height in task.picks if aisle == used})
                greatest = max(high - low for low, high in zip(heights, heights[1:]))
                wanted += min(3, 2 * (3 - greatest))
            self.assertEqual(plain_bound(self.house, task), wanted if task.picks else 0)

    def test_the_bound_of_the_example(self):
        self.assertEqual(plain_bound(EXAMPLE_HOUSE, EXAMPLE_TASK), 8)
        self.assertEqual(plain_bound(EXAMPLE_HOUSE, plain_task(1, [])), 0)
        self.assertEqual(plain_bound(EXAMPLE_HOUSE, plain_task(2, [(0, 0)])), 4)
        self.assertEqual(plain_bound(House([3], [], []), plain_task(0, [(0, 2)])), 2)

    def test_at_the_bounds(self):
        house = House([40], [40] * 11, [])
        task = plain_task(5, [(aisle, height) for aisle in range(12) for height in [8, 16, 24, 32, 40]])
        self.assertIs(is_plain(house, task), True)
        self.assertEqual(plain_bound(house, task), 880 + 12 * 40)
        lengths = [rule_length(house, task, rule) for rule in RULES]
        self.assertEqual(lengths, [880 + 960, 880 + 480, 880 + 80 + 10 * 64, 880 + 80 + 10 * 64])
        for rule in RULES:
            self.assertIs(is_round(house, task, rule_round(house, task, rule)), True)
        large = (helpers.large_house(), helpers.large_task())
        self.assertIs(is_plain(*large), False)


class Wrong(unittest.TestCase):
    def each_call(self):
        rules = [lambda house, task, rule=rule: rule_round(house, task, rule) for rule in RULES]
        lengths = [lambda house, task, rule=rule: rule_length(house, task, rule) for rule in RULES]
        return rules + lengths + [plain_bound]

    def test_not_plain(self):
        for house, task in not_plain():
            before = (helpers.house_state(house), helpers.task_state(task))
            for call in self.each_call():
                with self.assertRaises(InvalidTask):
                    call(house, task)
            self.assertEqual((helpers.house_state(house), helpers.task_state(task)), before)

    def test_a_task_that_does_not_fit_comes_first(self):
        for house in [House([3], [1], []), House([3], [1], [("up", 0, 1)]), House([2, 1], [1], [])]:
            for call in self.each_call() + [is_plain]:
                helpers.refuse_wrong_tasks(self, house, call)

    def test_nothing_changes(self):
        for call in self.each_call()[:len(RULES)]:
            helpers.assert_new_and_nothing_changed(self, WIDE, plain_task(1, SPREAD), call)


if __name__ == "__main__":
    unittest.main()
