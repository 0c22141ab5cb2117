"""Points [3], [5], [68] and [69]: drawings and totals."""

import unittest

import helpers
from pickaisle.drawing import drawing, totals
from pickaisle.houses import House
from pickaisle.least import least_plan
from pickaisle.tasks import Task
from pickaisle.ways import cut_off


def drawn_by_words(house, task, plan):
    """The drawing, character by character."""
    lines = []
    heights = helpers.cross_heights(house)
    for height in range(heights[-1], -1, -1):
        line = ""
        for aisle in range(len(house.gaps) + 1):
            place = (aisle, height)
            letters = [letter for letter, told in [
                ("B", task.start == task.end == place), ("S", task.start == place), ("E", task.end == place),
                ("o", place in task.picks), ("+", height in heights), ("|", True)] if told]
            line += letters[0]
            if aisle < len(house.gaps):
                link = ("over", aisle, height)
                between = {0: "-----", 1: "--1--", 2: "--2--"}[plan.get(link, 0)]
                line += "     " if height not in heights else "  x  " if link in house.closed else between
        if height < heights[-1]:
            links = [("up", aisle, height) for aisle in range(len(house.gaps) + 1)]
            line += " " + "".join("x" if link in house.closed else str(plan.get(link, 0)) for link in links)
        lines.append(line)
    return "\n".join(lines)


def totals_by_words(house, plan):
    ups = [0] * (len(house.gaps) + 1)
    overs = [0] * len(house.gaps)
    for (word, aisle, _), number in plan.items():
        if word == "up":
            ups[aisle] += number
        else:
            overs[aisle] += number * house.gaps[aisle]
    return "\n".join([f"aisle {aisle}: {number} up" for aisle, number in enumerate(ups)]
                     + [f"gap {gap}: {number} over" for gap, number in enumerate(overs)])


class Drawings(unittest.TestCase):
    def test_one_aisle(self):
        self.assertEqual(drawing(House([2], [], []), Task((0, 0), (0, 0), []), {}), "+\n| 0\nB 0")
        self.assertEqual(drawing(House([1, 1], [], []), Task((0, 1), (0, 2), [(0, 1), (0, 0)]), {("up", 0, 1): 1}),
                         "E\nS 1\no 0")

    def test_a_plan_with_closed_links_beside_it(self):
        house = House([2, 1], [3, 1], [("over", 0, 2), ("up", 1, 0), ("up", 2, 2), ("over", 1, 0)])
        task = Task((0, 0), (2, 2), [(0, 1), (1, 3), (1, 1), (2, 2), (0, 2)])
        plan = {("up", 0, 0): 1, ("up", 0, 1): 1, ("up", 0, 2): 1, ("over", 0, 3): 1, ("over", 1, 2): 1,
                ("up", 1, 2): 1, ("up", 1, 1): 2}
        self.assertEqual(drawing(house, task, plan),
                         "+--1--o-----+\n"
                         "o  x  +--1--E 11x\n"
                         "o     o     | 120\n"
                         "S-----+  x  + 1x0")

    def test_twos(self):
        house = House([1], [2, 3], [])
        plan = {("over", 0, 0): 2, ("up", 1, 0): 2, ("over", 1, 1): 2}
        self.assertEqual(drawing(house, Task((1, 0), (1, 0), [(0, 0), (2, 1)]), plan),
                         "+-----+--2--o\n"
                         "o--2--B-----+ 020")

    def test_by_words(self):
        for house in helpers.small_houses():
            for task in helpers.small_tasks(house):
                plans = [{}, {link: 2 - number % 2 for number, link in enumerate(house.walked_links())}]
                if cut_off(house, task) is None:
                    plans.append(least_plan(house, task))
                for plan in plans:
                    self.assertEqual(drawing(house, task, plan), drawn_by_words(house, task, plan))
                    self.assertEqual(totals(house, plan), totals_by_words(house, plan))

    def test_at_the_bounds(self):
        house, task = helpers.large_house(), helpers.large_task()
        plan = least_plan(house, task)
        text = drawing(house, task, plan)
        self.assertEqual(text, drawn_by_words(house, task, plan))
        lines = text.split("\n")
        self.assertEqual((len(lines), len(lines[0])), (81, 12 + 11 * 5))
        self.assertEqual({len(line) for line in lines[1:]}, {12 + 11 * 5 + 1 + 12})
        self.assertEqual([text.count(letter) for letter in "SEBo"], [1, 1, 0, 60])

    def test_a_task_that_does_not_fit(self):
        for house in [House([3], [1], []), House([2, 2], [1, 1], [("up", 0, 1)])]:
            helpers.refuse_wrong_tasks(self, house, lambda house, task: drawing(house, task, {}))

    def test_nothing_changes(self):
        house, task = House([2, 1], [1], [("up", 1, 0)]), Task((0, 0), (1, 3), [(0, 1)])
        plan = {("up", 0, 0): 2}
        before = (helpers.house_state(house), helpers.task_state(task), dict(plan))
        drawing(house, task, plan)
        totals(house, plan)
        self.assertEqual((helpers.house_state(house), helpers.task_state(task), plan), before)


class Totals(unittest.TestCase):
    def test_one_aisle(self):
        self.assertEqual(totals(House([2], [], []), {}), "aisle 0: 0 up")
        self.assertEqual(totals(House([1, 1], [], []), {("up", 0, 0): 2, ("up", 0, 1): 1}), "aisle 0: 3 up")

    def test_widths_count(self):
        house = House([2], [3, 5], [])
        plan = {("over", 0, 0): 2, ("over", 0, 2): 1, ("over", 1, 2): 2, ("up", 0, 1): 1, ("up", 2, 0): 2,
                ("up", 2, 1): 2}
        self.assertEqual(totals(house, plan),
                         "aisle 0: 1 up\naisle 1: 0 up\naisle 2: 4 up\ngap 0: 9 over\ngap 1: 10 over")

    def test_at_the_bounds(self):
        house, task = helpers.large_house(), helpers.large_task()
        plan = least_plan(house, task)
        text = totals(house, plan)
        self.assertEqual(text, totals_by_words(house, plan))
        self.assertEqual(sum(int(line.split(" ")[2]) for line in text.split("\n")), helpers.plan_size(house, plan))


if __name__ == "__main__":
    unittest.main()
