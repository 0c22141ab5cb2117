"""Points [3], [5], [12], [13], [15] and [70]: sessions, what they obey and what they reply."""

import random
import unittest

import helpers
from pickaisle.desk import Desk
from pickaisle.errors import (InvalidLink, InvalidPlace, NothingToRedo, NothingToUndo, PickTaken, TooLarge,
                              UnknownPick, Unreachable)
from pickaisle.houses import House
from pickaisle.notation import format_house, format_task, format_walk, parse_house, parse_task, parse_walk
from pickaisle.papers import least_round
from pickaisle.rounds import is_round, walk_length
from pickaisle.session import Session
from pickaisle.tables import least_length
from pickaisle.tasks import Task

HOUSE = House([2, 1], [1, 2], [("up", 0, 1)])
TASK = Task((0, 0), (2, 3), [(1, 1)])
HOUSE_TEXT = "lengths 2 1\ngaps 1 2\nclosed up 0 1"
TASK_TEXT = "start 0 0\nend 2 3\npick 1 1"


def changed(call, *values):
    """The reply to a change of a desk."""
    try:
        call(*values)
    except InvalidPlace as error:
        return "error place {} {}".format(*error.place)
    except PickTaken as error:
        return "error taken {} {}".format(*error.place)
    except UnknownPick as error:
        return "error unknown {} {}".format(*error.place)
    except InvalidLink:
        return "error link"
    except TooLarge:
        return "error large"
    except NothingToUndo:
        return "error undo"
    except NothingToRedo:
        return "error redo"
    return "ok"


def walk_text(house, task):
    try:
        return format_walk(least_round(house, task).walk)
    except Unreachable:
        return "none"


def some_line(chance):
    """A line by chance, and what it does to a desk, which gives the reply."""
    aisle, height = chance.randint(0, 3), chance.randint(0, 4)
    other, top = chance.randint(0, 2), chance.choice([0, 2, 3])
    lines = [
        (f"pick {aisle} {height}", lambda desk: changed(desk.put_pick, (aisle, height))),
        (f"drop {aisle} {height}", lambda desk: changed(desk.take_pick, (aisle, height))),
        (f"close up {aisle} {height}", lambda desk: changed(desk.close_link, ("up", aisle, height))),
        (f"close over {aisle} {top}", lambda desk: changed(desk.close_link, ("over", aisle, top))),
        (f"free up {aisle} {height}", lambda desk: changed(desk.free_link, ("up", aisle, height))),
        (f"free over {aisle} {top}", lambda desk: changed(desk.free_link, ("over", aisle, top))),
        (f"ends {aisle} {height} {other} {top}", lambda desk: changed(desk.set_ends, (aisle, height), (other, top))),
        (f"ends {other} {top} {aisle} {height}", lambda desk: changed(desk.set_ends, (other, top), (aisle, height))),
        ("undo", lambda desk: changed(desk.undo)),
        ("redo", lambda desk: changed(desk.redo)),
        ("length", lambda desk: "none" if desk.answer() is None else str(desk.answer())),
        ("walk", lambda desk: walk_text(desk.house_now(), desk.task_now())),
        ("house", lambda desk: format_house(desk.house_now())),
        ("task", lambda desk: format_task(desk.task_now())),
        ("walk ", lambda desk: "error command"),
    ]
    return chance.choice(lines)


class Replies(unittest.TestCase):
    def test_each_line(self):
        lines = ["house", "task", "length", "pick 0 2", "pick 2 0", "drop 1 1", "close over 1 3", "close up 2 1",
                 "free over 1 3", "free up 0 1", "ends 0 2 1 3", "house", "task", "undo", "undo", "redo", "task"]
        self.assertEqual(Session(HOUSE, TASK).play("\n".join(lines)), [
            HOUSE_TEXT, TASK_TEXT, str(helpers.least_round_length(HOUSE, TASK)), "ok", "ok", "ok", "ok", "ok", "ok",
            "ok", "ok", "lengths 2 1\ngaps 1 2\nclosed up 2 1", "start 0 2\nend 1 3\npick 0 2\npick 2 0", "ok", "ok",
            "ok", "start 0 0\nend 2 3\npick 0 2\npick 2 0"])

    def test_length_and_walk(self):
        session = Session(House([10], [4], []), Task((0, 0), (0, 0), [(1, 3), (1, 4), (1, 9)]))
        self.assertEqual(session.obey("length"), "26")
        walk = parse_walk(session.obey("walk"))
        task = Task((0, 0), (0, 0), [(1, 3), (1, 4), (1, 9)])
        self.assertIs(is_round(House([10], [4], []), task, walk), True)
        self.assertEqual((walk_length(House([10], [4], []), walk), len(walk)), (26, 21))
        self.assertEqual(session.obey("walk"), format_walk(least_round(House([10], [4], []), task).walk))

    def test_nothing_to_walk(self):
        session = Session(House([1], [], []), Task((0, 1), (0, 1), []))
        self.assertEqual(session.play("length\nwalk\nhouse\ntask"),
                         ["0", "0:1", "lengths 1\ngaps", "start 0 1\nend 0 1"])

    def test_no_round(self):
        session = Session(House([1], [1], []), Task((0, 0), (1, 0), []))
        self.assertEqual(session.play("close over 0 0\nlength\nwalk\nclose over 0 1\nlength\nwalk\nundo\nlength\nwalk"),
                         ["ok", "3", "0:0 0:1 1:1 1:0", "ok", "none", "none", "ok", "3", "0:0 0:1 1:1 1:0"])

    def test_by_a_desk(self):
        chance = random.Random(9)
        replies = {}
        for _ in range(20):
            session, desk = Session(HOUSE, TASK), Desk(HOUSE, TASK)
            for _ in range(50):
                line, wanted = some_line(chance)
                reply = wanted(desk)
                self.assertEqual(session.obey(line), reply, line)
                replies[" ".join(reply.split(" ")[:2])] = True
        self.assertTrue({"ok", "none", "error place", "error taken", "error unknown", "error link", "error undo",
                         "error redo", "error command"} <= set(replies))

    def test_at_the_bounds(self):
        house, task = helpers.large_house(), helpers.large_task()
        session = Session(house, task)
        pick = task.picks[20]
        self.assertEqual(session.play(f"length\npick 0 0\ndrop {pick[0]} {pick[1]}\npick 0 0\nlength"), [
            str(least_length(house, task)), "error large", "ok", "ok",
            str(least_length(house, task.without_pick(pick).with_pick((0, 0))))])
        walk = parse_walk(session.obey("walk"))
        self.assertIs(is_round(house, task.without_pick(pick).with_pick((0, 0)), walk), True)

    def test_what_is_written_is_read(self):
        session = Session(HOUSE, TASK)
        for line in ["pick 0 3", "close over 0 2", "ends 1 0 1 0", "close up 2 2"]:
            session.obey(line)
            house, task = parse_house(session.obey("house")), parse_task(session.obey("task"))
            self.assertEqual((format_house(house), format_task(task)), (session.obey("house"), session.obey("task")))
            walk = parse_walk(session.obey("walk"))
            self.assertEqual(session.obey("length"), str(walk_length(house, walk)))
            self.assertIs(is_round(house, task, walk), True)


class Errors(unittest.TestCase):
    def refused(self, session, line, reply):
        before = session.play("house\ntask\nlength")
        self.assertEqual(session.obey(line), reply)
        self.assertEqual(session.play("house\ntask\nlength"), before)

    def test_places(self):
        session = Session(HOUSE, TASK)
        self.refused(session, "pick 3 0", "error place 3 0")
        self.refused(session, "pick 0 4", "error place 0 4")
        self.refused(session, "pick 9999 9999", "error place 9999 9999")
        self.refused(session, "ends 0 1 9 9", "error place 0 1")
        self.refused(session, "ends 0 2 9 9", "error place 9 9")
        self.refused(session, "ends 0 0 1 1", "error place 1 1")

    def test_picks(self):
        session = Session(HOUSE, TASK)
        self.refused(session, "pick 1 1", "error taken 1 1")
        self.refused(session, "drop 0 0", "error unknown 0 0")
        self.refused(session, "drop 9999 1000", "error unknown 9999 1000")
        self.assertEqual(session.play("drop 1 1\ndrop 1 1\npick 1 1\npick 1 1"),
                         ["ok", "error unknown 1 1", "ok", "error taken 1 1"])

    def test_links(self):
        session = Session(HOUSE, TASK)
        for line in ["close up 0 1", "close up 0 3", "close up 3 0", "close over 2 0", "close over 0 1",
                     "free up 0 0", "free over 0 0", "free over 7 7", "free up 9999 9999"]:
            self.refused(session, line, "error link")

    def test_undo_and_redo(self):
        session = Session(HOUSE, TASK)
        self.refused(session, "undo", "error undo")
        self.refused(session, "redo", "error redo")
        self.assertEqual(session.play("pick 0 0\nundo\npick 1 1\nredo\nredo\nundo\nundo"),
                         ["ok", "ok", "error taken 1 1", "ok", "error redo", "ok", "error undo"])

    def test_large(self):
        house = House([40, 40], [1] * 11, [])
        links = house.walked_links()
        session = Session(House([40, 40], [1] * 11, links[5:205]), Task((0, 0), (0, 0), house.places()[:60]))
        self.refused(session, "pick 11 0", "error large")
        self.refused(session, "pick 0 3", "error taken 0 3")
        self.refused(session, "close up 11 70", "error large")
        self.refused(session, "close over {} {}".format(*links[5][1:]), "error link")
        self.assertEqual(session.play("free over {} {}\nclose up 11 70\nclose up 11 71".format(*links[5][1:])),
                         ["ok", "ok", "error large"])

    def test_lines_of_no_form(self):
        session = Session(HOUSE, TASK)
        for line in ["", " ", "  ", "pick", "pick 1", "pick 1 2 3", "pick  1 2", "pick 1  2", " pick 1 2",
                     "pick 1 2 ", "pick 01 2", "pick 1 02", "pick 00 2", "pick +1 2", "pick -1 2", "pick 1 -0",
                     "pick 10000 2", "pick 1 00001", "pick 12345 1", "pick 1.0 2", "pick 1,2", "pick a b", "Pick 1 2",
                     "PICK 1 2", "pick up 1 2", "drop", "drop 1", "drop 1 1 1", "close", "close 1 2", "close up",
                     "close up 1", "close up 1 2 3", "close over 0", "close  up 1 2", "close left 0 0",
                     "close up 1 x", "close UP 0 0", "free", "free 1 2", "free up", "free over 0", "free up 0 01",
                     "free down 0 0", "ends", "ends 0 0", "ends 0 0 1", "ends 0 0 1 0 0", "ends 0 0 1 00",
                     "end 0 0 1 0", "undo 1", "undo ", " undo", "undo undo", "redo 0", "redo ", "length 1", "length ",
                     "lengths", "walk 1", "walk  ", "house 0", "house house", "task 1 1", "task.", "ok",
                     "error command", "1 2", "0", "up 0 0", "over 0 0", "close close up 0 0", "pick 1 2 pick 1 2",
                     "none", "trial", "pick 1 1_0", "pick 1 ~", "quit"]:
            self.refused(session, line, "error command")
        self.assertEqual(session.obey("undo"), "error undo")

    def test_numbers_of_four_digits(self):
        session = Session(HOUSE, TASK)
        self.refused(session, "drop 1000 9999", "error unknown 1000 9999")
        self.refused(session, "drop 10000 9999", "error command")
        self.refused(session, "drop 0 0", "error unknown 0 0")

    def test_a_task_that_does_not_fit(self):
        for house in [House([3], [1], []), House([2, 2], [1, 1], [("up", 0, 1)])]:
            helpers.refuse_wrong_tasks(self, house, Session)


class Play(unittest.TestCase):
    def test_line_by_line(self):
        text = "pick 0 1\n\nlength\nundo\nundo\n"
        session, other = Session(HOUSE, TASK), Session(HOUSE, TASK)
        self.assertEqual(session.play(text), [other.obey(line) for line in text.split("\n")])
        self.assertEqual(session.play(text)[1::4], ["error command", "error command"])

    def test_the_empty_string_has_one_line(self):
        self.assertEqual(Session(HOUSE, TASK).play(""), ["error command"])
        self.assertEqual(Session(HOUSE, TASK).play("\n"), ["error command", "error command"])

    def test_sessions_are_apart_and_nothing_changes(self):
        before = (helpers.house_state(HOUSE), helpers.task_state(TASK))
        one, other = Session(HOUSE, TASK), Session(HOUSE, TASK)
        one.play("pick 0 0\nclose up 2 0\nends 0 0 0 0")
        self.assertEqual(other.play("house\ntask"), [HOUSE_TEXT, TASK_TEXT])
        self.assertEqual((helpers.house_state(HOUSE), helpers.task_state(TASK)), before)
        replies = other.play("house")
        replies.clear()
        self.assertEqual(other.play("house"), [HOUSE_TEXT])


if __name__ == "__main__":
    unittest.main()
