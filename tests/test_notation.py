"""Points [14] and [15]: the written forms, and back."""

import unittest

import helpers
from pickaisle.errors import InvalidNotation
from pickaisle.houses import House
from pickaisle.notation import format_house, format_task, format_walk, parse_house, parse_task, parse_walk
from pickaisle.tasks import Task

WRONG_NUMBERS = ["", "00", "01", "007", "-1", "+1", "1.0", "x", "1x", "10000", "00000", "0x1", "1_0", "-0"]


class Refusing(unittest.TestCase):
    def refused(self, parse, text, line):
        with self.assertRaises(InvalidNotation, msg=text) as caught:
            parse(text)
        self.assertEqual(caught.exception.line, line, text)


class WrittenHouses(Refusing):
    def test_format(self):
        self.assertEqual(format_house(House([3], [], [])), "lengths 3\ngaps")
        house = House([1, 40], [7, 1], [("up", 2, 0), ("over", 1, 41), ("up", 0, 40), ("over", 0, 1)])
        self.assertEqual(format_house(house), "lengths 1 40\ngaps 7 1\nclosed over 0 1\nclosed over 1 41\n"
                                              "closed up 0 40\nclosed up 2 0")

    def test_there_and_back(self):
        for house in helpers.small_houses():
            self.assertTrue(parse_house(format_house(house)).same_as(house))

    def test_closed_links_in_any_order(self):
        house = parse_house("lengths 2\ngaps 3\nclosed up 1 1\nclosed over 0 2\nclosed up 0 0")
        self.assertEqual(helpers.house_state(house), ([2], [3], [("over", 0, 2), ("up", 0, 0), ("up", 1, 1)], 2, 2))

    def test_first_line(self):
        for line in ["", "lengths", "lengths ", "lengths 0", "lengths 41", "lengths 5 0", "lengths 5 41",
                     "lengths 1 2 3", " lengths 3", "lengths  3", "lengths 3 ", "Lengths 3", "length 3", "lengths3",
                     "gaps", "gaps 3", "lengths 3,4"]:
            self.refused(parse_house, line, 1)
            self.refused(parse_house, line + "\ngaps 1", 1)
            self.refused(parse_house, line + "\nwrong\nwrong", 1)

    def test_second_line(self):
        self.refused(parse_house, "lengths 3", 2)
        for line in ["", "gaps ", "gaps 0", "gaps 41", "gaps 1 2 41", "gaps" + " 1" * 12, " gaps", "gaps  1", "gaps 1 ",
                     "Gaps 1", "lengths 3", "closed up 0 0", "gaps1"]:
            self.refused(parse_house, "lengths 3\n" + line, 2)
            self.refused(parse_house, "lengths 3\n" + line + "\nwrong", 2)
        self.assertEqual(parse_house("lengths 3\ngaps" + " 1" * 11).aisles, 12)

    def test_further_lines(self):
        for line in ["", "closed", "closed up", "closed up 0", "closed up 0 0 0", "closed up 0 3", "closed up 2 0",
                     "closed over 0 1", "closed over 1 0", "closed over 0 4", "closed down 0 0", "closed  up 0 0",
                     "closed up  0 0", "closed up 0 0 ", " closed up 0 0", "closed overup 0 0", "closed upper 0 0",
                     "up 0 0", "gaps 3", "closed over up 0 0", "closed over", "closed over0 0"]:
            self.refused(parse_house, "lengths 3\ngaps 2\n" + line, 3)
            self.refused(parse_house, "lengths 3\ngaps 2\nclosed up 0 1\n" + line + "\nwrong", 4)
            self.refused(parse_house, "lengths 3\ngaps 2\nclosed over 0 3\nclosed up 0 1\n" + line, 5)

    def test_repeated_closed_link(self):
        self.refused(parse_house, "lengths 3\ngaps 2\nclosed up 0 1\nclosed over 0 0\nclosed up 0 1", 5)

    def test_two_hundred_closed_links_and_one_more(self):
        lines = ["lengths 40 40", "gaps" + " 40" * 11]
        lines += [f"closed up {number // 80} {number % 80}" for number in range(200)]
        self.assertEqual(len(parse_house("\n".join(lines)).closed), 200)
        self.refused(parse_house, "\n".join(lines + ["closed over 0 0"]), 203)

    def test_newlines(self):
        self.refused(parse_house, "\n", 1)
        self.refused(parse_house, "lengths 3\n", 2)
        self.refused(parse_house, "lengths 3\ngaps\n", 3)
        self.refused(parse_house, "lengths 3\n\ngaps", 2)
        self.refused(parse_house, "lengths 3\ngaps 1\nclosed up 0 0\n", 4)

    def test_numbers(self):
        for word in WRONG_NUMBERS:
            self.refused(parse_house, f"lengths {word}\ngaps 1", 1)
            self.refused(parse_house, f"lengths 3\ngaps 2 {word}", 2)
            self.refused(parse_house, f"lengths 3\ngaps 2\nclosed up 0 {word}", 3)
            self.refused(parse_house, f"lengths 3\ngaps 2\nclosed over {word} 0", 3)


class WrittenTasks(Refusing):
    def test_format(self):
        self.assertEqual(format_task(Task((0, 10), (2, 0), [])), "start 0 10\nend 2 0")
        self.assertEqual(format_task(Task((0, 10), (0, 10), [(10, 0), (2, 9999), (2, 10)])),
                         "start 0 10\nend 0 10\npick 2 10\npick 2 9999\npick 10 0")

    def test_there_and_back(self):
        for house in helpers.small_houses():
            for task in helpers.small_tasks(house):
                self.assertTrue(parse_task(format_task(task)).same_as(task))

    def test_picks_in_any_order(self):
        task = parse_task("start 0 0\nend 1000 0\npick 2 1\npick 1 1000\npick 0 0")
        self.assertEqual(helpers.task_state(task), ((0, 0), (1000, 0), [(0, 0), (1, 1000), (2, 1)]))

    def test_wrong_forms_in_each_line(self):
        for rest in ["", " ", " 1", " 1 2 3", " 1  2", " 1 2 ", "  1 2", " 1001 0", " 0 1001", " 9999 9999", " a b",
                     " 1:2", "1 2"]:
            self.refused(parse_task, "start" + rest, 1)
            self.refused(parse_task, "start" + rest + "\nend 0 0\nwrong", 1)
            self.refused(parse_task, "start 0 0\nend" + rest, 2)
            self.refused(parse_task, "start 0 0\nend" + rest + "\nwrong", 2)
            self.refused(parse_task, "start 0 0\nend 0 0\npick" + rest, 3)
            self.refused(parse_task, "start 0 0\nend 0 0\npick 0 0\npick" + rest + "\nwrong", 4)

    def test_lines_in_another_order(self):
        self.refused(parse_task, "end 0 0\nstart 0 0", 1)
        self.refused(parse_task, "start 0 0\npick 0 0\nend 0 0", 2)
        self.refused(parse_task, "start 0 0\nstart 0 0", 2)
        self.refused(parse_task, "start 0 0\nend 0 0\nend 0 0", 3)

    def test_ends_and_newlines(self):
        self.refused(parse_task, "", 1)
        self.refused(parse_task, "start 0 0", 2)
        self.refused(parse_task, "start 0 0\n", 2)
        self.refused(parse_task, "start 0 0\nend 0 0\n", 3)
        self.refused(parse_task, "start 0 0\nend 0 0\n\npick 0 0", 3)
        self.refused(parse_task, "start 0 0\nend 0 0\npick 0 0\n", 4)

    def test_repeated_pick(self):
        self.refused(parse_task, "start 0 0\nend 0 0\npick 0 0\npick 1 1\npick 0 0\npick 0 0", 5)

    def test_sixty_picks_and_one_more(self):
        lines = ["start 0 0", "end 0 0"] + [f"pick 3 {height}" for height in range(60)]
        self.assertEqual(len(parse_task("\n".join(lines)).picks), 60)
        self.refused(parse_task, "\n".join(lines + ["pick 4 0", "wrong"]), 63)

    def test_numbers(self):
        for word in WRONG_NUMBERS:
            self.refused(parse_task, f"start {word} 0\nend 0 0", 1)
            self.refused(parse_task, f"start 0 0\nend 0 {word}", 2)
            self.refused(parse_task, f"start 0 0\nend 0 0\npick {word} 0", 3)


class WrittenWalks(Refusing):
    def test_format(self):
        self.assertEqual(format_walk([(0, 0)]), "0:0")
        self.assertEqual(format_walk([(0, 12), (10, 9999), (0, 12)]), "0:12 10:9999 0:12")

    def test_parse(self):
        self.assertEqual(parse_walk("0:0"), [(0, 0)])
        self.assertEqual(parse_walk("0:12 10:9999 0:12"), [(0, 12), (10, 9999), (0, 12)])

    def test_there_and_back(self):
        for house in helpers.small_houses():
            for _, walk in helpers.simple_walks(house, (0, 0)):
                self.assertEqual(parse_walk(format_walk(walk)), walk)

    def test_other_texts(self):
        for text in ["", " ", "0", "0:", ":0", ":", "0:0:0", "0 :0", "0: 0", "0:0 ", " 0:0", "0:0  0:1", "0:0,0:1",
                     "0:0\n", "\n0:0", "0:0\n0:1", "0:0 0:1\n", "0:0 1", "0:0 x:y", "(0, 0)"]:
            self.refused(parse_walk, text, 1)

    def test_numbers(self):
        for word in WRONG_NUMBERS:
            self.refused(parse_walk, f"0:0 {word}:0", 1)
            self.refused(parse_walk, f"0:{word} 0:0", 1)


class NothingChanges(unittest.TestCase):
    def test_what_is_passed(self):
        house, task = House([2], [1], [("up", 1, 0)]), Task((0, 0), (1, 0), [(0, 1)])
        walk = [(0, 0), (0, 1)]
        before = (helpers.house_state(house), helpers.task_state(task), list(walk))
        format_house(house)
        format_task(task)
        format_walk(walk)
        self.assertEqual((helpers.house_state(house), helpers.task_state(task), walk), before)


if __name__ == "__main__":
    unittest.main()
