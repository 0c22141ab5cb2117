"""Points [3], [5], [12] and [48] to [51]: papers, gives and least rounds with their papers."""

import random
import unittest
from copy import deepcopy

import helpers
from pickaisle.errors import InvalidPaper, InvalidPlace, InvalidPlan, Unreachable
from pickaisle.houses import House
from pickaisle.kinds import is_kind
from pickaisle.least import all_plans
from pickaisle.papers import Round, check_paper, gives, is_paper, least_round, paper_for
from pickaisle.plans import plan_of_walk
from pickaisle.rounds import is_round, nearest_round, walk_length
from pickaisle.tables import least_length, table
from pickaisle.tasks import Task
from pickaisle.ways import cut_off

NONE, DONE = "none", "done"
EXAMPLE_HOUSE = House([10], [4], [])
EXAMPLE_TASK = Task((0, 0), (0, 0), [(1, 3), (1, 4), (1, 9)])
NO_ROUND_HOUSE = House([1], [1], [("over", 0, 0), ("over", 0, 1)])
NO_ROUND_TASK = Task((0, 0), (0, 0), [(1, 1)])
KINDS = {heights: list(helpers.all_kinds(heights)) for heights in (2, 3)}


def cases():
    """The small houses with some of the small tasks."""
    return [(house, task) for house in helpers.small_houses() for task in helpers.small_tasks(house)[::2]]


def tables_of(house, task):
    return [table(house, task, aisle) for aisle in range(house.aisles)]


def least_paper(tables):
    """The paper of point [50], from the tables of all aisles."""
    paper = [{NONE: 0}]
    for found in tables:
        numbers = {}
        for (ahead, behind), length in found.items():
            if ahead in paper[-1]:
                whole = paper[-1][ahead] + length
                numbers[behind] = min(whole, numbers.get(behind, whole))
        paper.append(numbers)
    return paper


def right_by_words(house, tables, paper):
    """Whether the paper is right, by the words of point [48]."""
    if len(paper) != len(tables) + 1 or paper[0] != {NONE: 0}:
        return False
    if any(kind not in KINDS[len(house.lengths) + 1] for numbers in paper for kind in numbers):
        return False
    for found, numbers, onward in zip(tables, paper, paper[1:]):
        for (ahead, behind), length in found.items():
            if ahead in numbers and (behind not in onward or onward[behind] > numbers[ahead] + length):
                return False
    return True


def changed_papers(paper, chance, kinds):
    """Papers that differ from this one a little."""
    for at in range(len(paper)):
        for kind in chance.sample(sorted(paper[at], key=str), min(2, len(paper[at]))):
            for more in [-10 ** 30, -1, 1]:
                yield paper[:at] + [paper[at] | {kind: paper[at][kind] + more}] + paper[at + 1:]
            yield paper[:at] + [{other: paper[at][other] for other in paper[at] if other != kind}] + paper[at + 1:]
        for kind in chance.sample(kinds, 2):
            if kind not in paper[at]:
                for number in [-5, 0, 10 ** 30]:
                    yield paper[:at] + [paper[at] | {kind: number}] + paper[at + 1:]


class PaperFor(unittest.TestCase):
    def test_least_sums(self):
        for house, task in cases():
            self.assertEqual(paper_for(house, task), least_paper(tables_of(house, task)))

    def test_it_is_right_and_shows_the_least_length(self):
        none = 0
        for house, task in cases():
            paper, length = paper_for(house, task), helpers.least_round_length(house, task)
            self.assertIs(is_paper(house, task, paper), True)
            self.assertIs(check_paper(house, task, paper, length), True)
            self.assertIs(check_paper(house, task, paper, None), length is None)
            self.assertIs(length is None, cut_off(house, task) is not None)
            for other in [0, -10 ** 30, (length or 0) + 1, 10 ** 30]:
                self.assertIs(check_paper(house, task, paper, other), length is not None and other <= length)
            none += length is None
        self.assertGreater(none, 0)

    def test_one_aisle(self):
        task = Task((0, 0), (0, 0), [(0, 2)])
        self.assertEqual(paper_for(House([3], [], []), task), [{NONE: 0}, {DONE: 4}])
        self.assertEqual(paper_for(House([3, 1], [], []), Task((0, 0), (0, 0), [])), [{NONE: 0}, {DONE: 0}])
        self.assertEqual(paper_for(House([3], [], [("up", 0, 0), ("up", 0, 2)]), task.with_pick((0, 1))),
                         [{NONE: 0}, {}])

    def test_in_each_right_paper_the_kinds_stand_with_numbers_that_are_no_greater(self):
        chance = random.Random(8)
        house, task = House([3], [2, 1], [("up", 1, 1)]), Task((0, 0), (2, 3), [(1, 1), (2, 2)])
        least, tables = paper_for(house, task), tables_of(house, task)
        papers = [least]
        for _ in range(6):
            papers += [paper for old in papers[-5:] for paper in changed_papers(old, chance, KINDS[2])
                       if is_paper(house, task, paper)]
        for paper in papers:
            self.assertIs(right_by_words(house, tables, paper), True)
            for numbers, told in zip(least, paper):
                self.assertTrue(all(kind in told and told[kind] <= numbers[kind] for kind in numbers))
        self.assertGreater(len(papers), 50)


class IsPaper(unittest.TestCase):
    def test_papers_that_were_changed(self):
        chance = random.Random(4)
        told = {True: 0, False: 0}
        for house, task in cases():
            tables, paper = tables_of(house, task), paper_for(house, task)
            for other in changed_papers(paper, chance, KINDS[len(house.lengths) + 1]):
                right = right_by_words(house, tables, other)
                self.assertIs(is_paper(house, task, other), right)
                for length in [None, -5, 0, other[-1].get(DONE, 7), other[-1].get(DONE, 7) + 1]:
                    shows = DONE not in other[-1] if length is None else other[-1].get(DONE, -10 ** 40) >= length
                    shows = right and shows
                    self.assertIs(check_paper(house, task, other, length), shows)
                told[right] += 1
        self.assertGreater(min(told.values()), 100)

    def test_lower_numbers_show_less(self):
        paper = paper_for(EXAMPLE_HOUSE, EXAMPLE_TASK)
        for less in [1, 26, 10 ** 40]:
            lower = paper[:2] + [{kind: number - less for kind, number in paper[2].items()}]
            self.assertEqual([check_paper(EXAMPLE_HOUSE, EXAMPLE_TASK, lower, 26 - less + more) for more in (-1, 0, 1)],
                             [True, True, False])
        self.assertIs(is_paper(EXAMPLE_HOUSE, EXAMPLE_TASK, paper[:2] + [{DONE: 27}]), False)

    def test_the_first_dict(self):
        rest = paper_for(EXAMPLE_HOUSE, EXAMPLE_TASK)[1:]
        for first in [{}, {NONE: 1}, {NONE: -1}, {DONE: 0}, {NONE: 0, DONE: 0}, {NONE: 0, ((1, 1), (1, 1)): 0}]:
            self.assertIs(is_paper(EXAMPLE_HOUSE, EXAMPLE_TASK, [first] + rest), False)

    def test_the_number_of_dicts(self):
        paper = paper_for(EXAMPLE_HOUSE, EXAMPLE_TASK)
        for wrong in [[], paper[:1], paper[:-1], paper + paper[-1:], paper + [{}], [{NONE: 0}] + paper]:
            self.assertIs(is_paper(EXAMPLE_HOUSE, EXAMPLE_TASK, wrong), False)
            self.assertIs(check_paper(EXAMPLE_HOUSE, EXAMPLE_TASK, wrong, -100), False)
            self.assertIs(check_paper(EXAMPLE_HOUSE, EXAMPLE_TASK, wrong, None), False)

    def test_kinds_that_are_none(self):
        paper = paper_for(EXAMPLE_HOUSE, EXAMPLE_TASK)
        wrong = ["", "None", "some", "NONE", (), ((0, 0),), ((0, 0), (0, 0)), ((1, 2), (1, 1)), ((1, 1), (1, 3)),
                 ((3, 1), (0, 0)), ((-1, 1), (1, 1)), ((0, 1), (1, 1)), ((1, 0), (1, 1)), ((1, 1), (0, 0), (1, 1)),
                 ((1, 1), (1, 1), (1, 1)), ((2, 2), (0, 0)), ((10 ** 30, 1), (1, 1))]
        for at in (1, 2):
            for kind in wrong:
                self.assertIs(is_kind(2, kind), False)
                other = paper[:at] + [paper[at] | {kind: 0}] + paper[at + 1:]
                self.assertIs(is_paper(EXAMPLE_HOUSE, EXAMPLE_TASK, other), False)
                self.assertIs(check_paper(EXAMPLE_HOUSE, EXAMPLE_TASK, other, 1), False)

    def test_kinds_that_lead_nowhere_are_let(self):
        paper = paper_for(EXAMPLE_HOUSE, EXAMPLE_TASK)
        # Start and end are one place, so no kind with an odd sum fits a gap; and aisle 1 has picks.
        self.assertEqual(paper[1][DONE], 0)
        for kind, most in [(((1, 1), (0, 0)), 10 ** 30), (((1, 1), (2, 1)), 10 ** 30), (DONE, 0)]:
            for number in [-10 ** 30, 0, most]:
                other = [paper[0], paper[1] | {kind: number}, paper[2]]
                self.assertIs(is_paper(EXAMPLE_HOUSE, EXAMPLE_TASK, other), True)
                self.assertIs(check_paper(EXAMPLE_HOUSE, EXAMPLE_TASK, other, 26), True)
        for kind in [((2, 1), (2, 2)), NONE]:
            other = [paper[0], {key: 0 for key in paper[1]} | {kind: -10 ** 30}, paper[2]]
            self.assertIs(is_paper(EXAMPLE_HOUSE, EXAMPLE_TASK, other), False)

    def test_no_round(self):
        paper = paper_for(NO_ROUND_HOUSE, NO_ROUND_TASK)
        self.assertEqual(paper, [{NONE: 0}, {DONE: 0}, {}])
        self.assertIs(check_paper(NO_ROUND_HOUSE, NO_ROUND_TASK, paper, None), True)
        self.assertIs(check_paper(NO_ROUND_HOUSE, NO_ROUND_TASK, paper, 0), False)
        self.assertIs(check_paper(NO_ROUND_HOUSE, NO_ROUND_TASK, paper, -10 ** 30), False)
        more = paper[:2] + [{DONE: 12}]
        self.assertIs(is_paper(NO_ROUND_HOUSE, NO_ROUND_TASK, more), True)
        self.assertIs(check_paper(NO_ROUND_HOUSE, NO_ROUND_TASK, more, 12), True)
        self.assertIs(check_paper(NO_ROUND_HOUSE, NO_ROUND_TASK, more, None), False)
        self.assertIs(check_paper(EXAMPLE_HOUSE, EXAMPLE_TASK, paper, None), False)

    def test_a_paper_for_another_task(self):
        paper = paper_for(EXAMPLE_HOUSE, EXAMPLE_TASK)
        self.assertIs(is_paper(EXAMPLE_HOUSE, EXAMPLE_TASK.with_pick((1, 5)), paper), True)
        self.assertIs(is_paper(EXAMPLE_HOUSE, EXAMPLE_TASK.without_pick((1, 9)), paper), False)
        self.assertIs(is_paper(House([10], [4], [("over", 0, 0)]), EXAMPLE_TASK, paper), True)
        self.assertIs(is_paper(House([10], [3], []), EXAMPLE_TASK, paper), False)


class Gives(unittest.TestCase):
    def test_all_plans(self):
        for house in helpers.plan_houses():
            for task in helpers.small_tasks(house):
                paper = paper_for(house, task)
                lower = paper[:-1] + [{kind: number - 3 for kind, number in paper[-1].items()}]
                for plan in helpers.all_plans(house, task):
                    for told in (paper, lower):
                        found = gives(house, task, told, plan)
                        self.assertEqual(len(found), house.aisles)
                        self.assertGreaterEqual(min(found), 0)
                        self.assertEqual(sum(found) + told[-1][DONE], helpers.plan_size(house, plan))

    def test_aisle_by_aisle(self):
        house = House([2], [3], [])
        task = Task((0, 0), (0, 0), [(1, 1)])
        paper = paper_for(house, task)
        self.assertEqual(gives(house, task, paper, {("over", 0, 0): 2, ("up", 1, 0): 2}), [0, 0])
        self.assertEqual(gives(house, task, paper, {("over", 0, 0): 2, ("up", 1, 0): 2, ("up", 1, 1): 2}), [0, 2])
        self.assertEqual(gives(house, task, paper, {("over", 0, 0): 2, ("up", 0, 0): 2, ("up", 1, 0): 2}), [2, 0])
        around = {link: 1 for link in house.walked_links()}
        kind = ((1, 1), (1, 1))
        self.assertEqual(gives(house, task, paper, around), [8 - paper[1][kind], paper[1][kind] + 2 - 8])

    def test_least_plans_have_none(self):
        for house, task in cases():
            if cut_off(house, task) is None:
                paper = paper_for(house, task)
                for plan in all_plans(house, task):
                    self.assertEqual(gives(house, task, paper, plan), [0] * house.aisles)

    def test_plans_of_walks(self):
        house, task = helpers.large_house(), helpers.large_task()
        paper, plan = paper_for(house, task), plan_of_walk(house, nearest_round(house, task))
        found = gives(house, task, paper, plan)
        self.assertEqual(sum(found) + least_length(house, task), helpers.plan_size(house, plan))
        self.assertGreaterEqual(min(found), 0)

    def test_errors_in_their_order(self):
        paper, plan = paper_for(EXAMPLE_HOUSE, EXAMPLE_TASK), {("over", 0, 0): 2}
        wrong = Task((0, 0), (0, 0), [(1, 11)])
        calls = [(InvalidPlace, wrong, [{}], {}), (InvalidPlace, wrong, paper, plan),
                 (InvalidPaper, EXAMPLE_TASK, [{}], plan), (InvalidPaper, EXAMPLE_TASK, [], plan),
                 (InvalidPaper, EXAMPLE_TASK, paper[:2] + [{DONE: 27}], plan),
                 (InvalidPlan, EXAMPLE_TASK, paper, plan), (InvalidPlan, EXAMPLE_TASK, paper, {("up", 9, 9): 1})]
        for error, task, told, links in calls:
            before = deepcopy((told, links, helpers.task_state(task)))
            with self.assertRaises(error):
                gives(EXAMPLE_HOUSE, task, told, links)
            self.assertEqual((told, links, helpers.task_state(task)), before)
        self.assertRaises(InvalidPlan, gives, NO_ROUND_HOUSE, NO_ROUND_TASK, [{NONE: 0}, {DONE: 0}, {}], {})


class Rounds(unittest.TestCase):
    def test_the_example(self):
        found = least_round(EXAMPLE_HOUSE, EXAMPLE_TASK)
        shown = [check_paper(EXAMPLE_HOUSE, EXAMPLE_TASK, found.paper, length) for length in (26, 27)]
        self.assertEqual((found.length, len(found.walk), shown), (26, 21, [True, False]))

    def test_least_rounds(self):
        for house, task in cases():
            length = helpers.least_round_length(house, task)
            if length is None:
                with self.assertRaises(Unreachable) as caught:
                    least_round(house, task)
                self.assertEqual(caught.exception.place, cut_off(house, task))
            else:
                found = least_round(house, task)
                self.assertIsInstance(found, Round)
                self.assertIs(is_round(house, task, found.walk), True)
                self.assertEqual([found.length, walk_length(house, found.walk)], [length, length])
                self.assertEqual(found.paper, paper_for(house, task))

    def test_at_the_bounds(self):
        house, task = helpers.large_house(), helpers.large_task()
        found = least_round(house, task)
        self.assertIs(is_round(house, task, found.walk), True)
        self.assertEqual([found.length, walk_length(house, found.walk)], [least_length(house, task)] * 2)
        self.assertIs(check_paper(house, task, found.paper, found.length), True)
        self.assertIs(check_paper(house, task, found.paper, found.length + 1), False)
        self.assertIs(check_paper(house, task, found.paper, None), False)

    def test_nothing_to_walk(self):
        found = least_round(House([2], [], []), Task((0, 2), (0, 2), [(0, 2)]))
        self.assertEqual((found.walk, found.length, found.paper), ([(0, 2)], 0, [{NONE: 0}, {DONE: 0}]))

    def test_the_fields_hold_copies(self):
        walk, paper = [(0, 0), (0, 1)], [{NONE: 0}, {DONE: 1, ((1, 1), (1, 1)): 3}]
        made = Round(walk, 1, paper)
        walk.append((0, 2))
        paper[1][DONE] = 7
        paper.append({})
        self.assertEqual((made.walk, made.length, made.paper),
                         ([(0, 0), (0, 1)], 1, [{NONE: 0}, {DONE: 1, ((1, 1), (1, 1)): 3}]))

    def test_what_is_passed_need_not_be_right(self):
        made = Round([], -3, [])
        self.assertEqual((made.walk, made.length, made.paper), ([], -3, []))

    def test_each_round_is_new(self):
        first = least_round(EXAMPLE_HOUSE, EXAMPLE_TASK)
        wanted = (list(first.walk), first.length, deepcopy(first.paper))
        first.walk.clear()
        helpers.empty_out(first.paper)
        second = least_round(EXAMPLE_HOUSE, EXAMPLE_TASK)
        self.assertEqual((second.walk, second.length, second.paper), wanted)


class Wrong(unittest.TestCase):
    def test_a_task_that_does_not_fit(self):
        calls = [paper_for, least_round, lambda house, task: is_paper(house, task, []),
                 lambda house, task: check_paper(house, task, [{}], 3),
                 lambda house, task: check_paper(house, task, [], None),
                 lambda house, task: gives(house, task, [], {})]
        for house in [House([3], [1], []), House([2, 2], [1, 1], [("up", 0, 1)]), NO_ROUND_HOUSE]:
            for call in calls:
                helpers.refuse_wrong_tasks(self, house, call)

    def test_new_and_nothing_changed(self):
        house, task = House([2, 1], [1], [("up", 1, 0)]), Task((0, 0), (1, 3), [(0, 1), (1, 1)])
        helpers.assert_new_and_nothing_changed(self, house, task, paper_for)
        paper, plan = paper_for(house, task), all_plans(house, task)[0]
        before = deepcopy((paper, plan))
        is_paper(house, task, paper)
        check_paper(house, task, paper, 3)
        gives(house, task, paper, plan).clear()
        self.assertEqual(gives(house, task, paper, plan), [0, 0])
        self.assertEqual((paper, plan), before)


if __name__ == "__main__":
    unittest.main()
