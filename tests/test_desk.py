"""Points [3] and [64] to [67]: the desk, undo and redo, kept answers, and trials."""

import random
import unittest
from contextlib import suppress

import helpers
from pickaisle.desk import Desk, Trial
from pickaisle.errors import (InvalidLink, InvalidPlace, NothingToRedo, NothingToUndo, PickError, PickTaken, TooLarge,
                              UnknownPick)
from pickaisle.houses import House
from pickaisle.tables import least_length
from pickaisle.tasks import Task

HOUSE = House([2, 1], [1, 2], [("up", 0, 1)])
TASK = Task((0, 0), (2, 3), [(1, 1)])


class Left(Exception):
    """An error of the tests, which is none of the program."""


def state(desk):
    return (helpers.house_state(desk.house_now()), helpers.task_state(desk.task_now()))


def states_by(desk, call, error):
    """The states to which a call leads again and again until it raises this error."""
    told = []
    while True:
        try:
            call()
        except error:
            return told
        told.append(state(desk))


def history(desk):
    """How much can be undone and restored, and all these states, told by a desk that is left as it was."""
    back = states_by(desk, desk.undo, NothingToUndo)
    for _ in back:
        desk.redo()
    onward = states_by(desk, desk.redo, NothingToRedo)
    for _ in onward:
        desk.undo()
    return (len(back), len(onward), [state(desk)] + back + onward)


def links_and_more(house):
    """All links of the house, and some that are none."""
    return list(helpers.all_links(house)) + [("up", 0, 3), ("over", 0, 1), ("over", 2, 0), ("", 0, 0), ("up", -1, 0)]


def some_deed(chance, house):
    """A deed by chance, which may raise."""
    places = helpers.all_places(house) + [(3, 0), (0, 4)]
    word = chance.choice(["put", "put", "take", "take", "close", "free", "ends"])
    if word in ("put", "take"):
        return (word, chance.choice(places))
    if word in ("close", "free"):
        return (word, chance.choice(links_and_more(house)))
    return (word, chance.choice(places), chance.choice(places))


def after(house, task, deed):
    """The house and the task after a deed, from their own methods; or an error."""
    word, value = deed[0], deed[1]
    if word == "put":
        if not house.is_place(value):
            raise InvalidPlace(value)
        return house, task.with_pick(value)
    if word == "take":
        return house, task.without_pick(value)
    if word == "close":
        return house.with_closed(value), task
    if word == "free":
        return house.without_closed(value), task
    for place in deed[1:]:
        if not house.is_cross(place):
            raise InvalidPlace(place)
    return house, task.with_ends(deed[1], deed[2])


def make(desk, deed):
    """Make a deed by the method of its own."""
    calls = {"put": desk.put_pick, "take": desk.take_pick, "close": desk.close_link, "free": desk.free_link,
             "ends": desk.set_ends, "all": desk.change_all}
    return calls[deed[0]](*deed[1:])


def put_deeper(desk, depth, caught_at, wrong):
    """Put a pick in each of 20 trials, each in the one before; an error of the last one is caught in one of them."""
    with desk.trial():
        desk.put_pick((0, depth))
        if depth < 20:
            with suppress(*[Left] if depth == caught_at else []):
                put_deeper(desk, depth + 1, caught_at, wrong)
        elif wrong:
            raise Left


class Changes(unittest.TestCase):
    def test_each_change(self):
        desk = Desk(HOUSE, TASK)
        self.assertEqual(state(desk), (helpers.house_state(HOUSE), helpers.task_state(TASK)))
        self.assertIsNone(desk.put_pick((0, 2)))
        self.assertIsNone(desk.take_pick((1, 1)))
        self.assertIsNone(desk.close_link(("over", 1, 3)))
        self.assertIsNone(desk.free_link(("up", 0, 1)))
        self.assertIsNone(desk.set_ends((1, 2), (1, 2)))
        self.assertEqual(desk.house_now().closed, [("over", 1, 3)])
        self.assertEqual(helpers.task_state(desk.task_now()), ((1, 2), (1, 2), [(0, 2)]))
        self.assertEqual(history(desk)[:2], (5, 0))
        self.assertIsNone(desk.undo())
        self.assertIsNone(desk.redo())

    def test_what_is_passed_does_not_change(self):
        house, task = House([2], [1], []), Task((0, 0), (1, 0), [(0, 1)])
        before = (helpers.house_state(house), helpers.task_state(task))
        desk = Desk(house, task)
        desk.close_link(("up", 0, 1))
        desk.take_pick((0, 1))
        desk.set_ends((0, 2), (0, 2))
        self.assertEqual((helpers.house_state(house), helpers.task_state(task)), before)
        deeds = [("put", (0, 1)), ("all", [("take", (0, 1))])]
        desk.change_all(deeds)
        self.assertEqual(deeds, [("put", (0, 1)), ("all", [("take", (0, 1))])])

    def test_against_a_list_of_states(self):
        chance = random.Random(3)
        for run in range(12):
            house, task = HOUSE, TASK
            desk = Desk(house, task)
            states, at, answers = [(house, task)], 0, {}
            for _ in range(60):
                deed = chance.choice([("undo",), ("undo",), ("redo",), ("answer",)] + [some_deed(chance, house)] * 5)
                if deed == ("undo",):
                    if at == 0:
                        self.assertRaises(NothingToUndo, desk.undo)
                    else:
                        desk.undo()
                        at -= 1
                elif deed == ("redo",):
                    if at == len(states) - 1:
                        self.assertRaises(NothingToRedo, desk.redo)
                    else:
                        desk.redo()
                        at += 1
                elif deed == ("answer",):
                    key = str([helpers.house_state(states[at][0]), helpers.task_state(states[at][1])])
                    answers[key] = least_length(*states[at])
                    self.assertEqual(desk.answer(), answers[key])
                else:
                    try:
                        changed = after(*states[at], deed)
                    except PickError as error:
                        with self.assertRaises(type(error)) as caught:
                            make(desk, deed)
                        self.assertEqual(vars(caught.exception), vars(error))
                    else:
                        make(desk, deed)
                        states, at = states[:at + 1] + [changed], at + 1
                wanted = (helpers.house_state(states[at][0]), helpers.task_state(states[at][1]))
                self.assertEqual(state(desk), wanted)
                self.assertEqual(desk.found, len(answers))
            self.assertEqual(history(desk)[:2], (at, len(states) - 1 - at))

    def test_the_task_always_fits(self):
        desk = Desk(HOUSE, TASK)
        for link in HOUSE.walked_links():
            desk.close_link(link)
        self.assertIsNone(desk.answer())
        desk.set_ends((1, 2), (1, 2))
        desk.take_pick((1, 1))
        self.assertEqual(desk.answer(), 0)


class Wrong(unittest.TestCase):
    def refused(self, desk, error, deed, **told):
        before, found = history(desk), desk.found
        for call in (lambda: make(desk, deed), lambda: desk.change_all([deed]),
                     lambda: desk.change_all([("put", (2, 2)), ("all", [deed])])):
            with self.assertRaises(error) as caught:
                call()
            self.assertEqual(vars(caught.exception), told)
            self.assertEqual((history(desk), desk.found), (before, found))

    def desk(self):
        desk = Desk(HOUSE, TASK)
        desk.put_pick((0, 2))
        desk.put_pick((0, 0))
        desk.undo()
        return desk

    def test_a_task_that_does_not_fit(self):
        for house in [House([3], [1], []), House([2, 2], [1, 1], [("up", 0, 1)])]:
            helpers.refuse_wrong_tasks(self, house, Desk)

    def test_picks(self):
        desk = self.desk()
        for place in [(3, 0), (-1, 0), (0, 4), (0, -1), (1000, 1000)]:
            self.refused(desk, InvalidPlace, ("put", place), place=place)
            self.refused(desk, UnknownPick, ("take", place), place=place)
        for place in [(1, 1), (0, 2)]:
            self.refused(desk, PickTaken, ("put", place), place=place)
        for place in [(0, 0), (2, 3), (0, 1)]:
            self.refused(desk, UnknownPick, ("take", place), place=place)

    def test_links(self):
        desk = self.desk()
        for link in [("up", 0, 1), ("up", 0, 3), ("over", 2, 0), ("over", 0, 1), ("left", 0, 0), ("up", -1, 0)]:
            self.refused(desk, InvalidLink, ("close", link))
        for link in [("up", 0, 0), ("over", 0, 0), ("up", 0, 3), ("", 0, 0)]:
            self.refused(desk, InvalidLink, ("free", link))

    def test_ends(self):
        desk = self.desk()
        for start, end, place in [((0, 1), (9, 9), (0, 1)), ((0, 2), (9, 9), (9, 9)), ((3, 0), (0, 0), (3, 0)),
                                  ((0, 0), (1, 1), (1, 1)), ((-1, 0), (0, 0), (-1, 0))]:
            self.refused(desk, InvalidPlace, ("ends", start, end), place=place)

    def test_60_picks_and_200_closed_links(self):
        house, task = helpers.large_house(), helpers.large_task()
        desk = Desk(house, task.without_pick(task.picks[3]))
        desk.put_pick(task.picks[3])
        self.refused(desk, TooLarge, ("put", (0, 0)))
        with self.assertRaises(PickTaken):
            desk.put_pick(task.picks[0])
        with self.assertRaises(InvalidPlace):
            desk.put_pick((12, 0))
        self.assertEqual(desk.answer(), least_length(house, task))
        closed = house.walked_links()[:199 - len(house.closed)]
        full = Desk(House(house.lengths, house.gaps, house.closed + closed), task)
        full.close_link(house.walked_links()[-1])
        with self.assertRaises(TooLarge):
            full.close_link(("up", 11, 20))
        with self.assertRaises(InvalidLink):
            full.close_link(closed[0])
        self.assertEqual(len(full.house_now().closed), 200)

    def test_nothing_to_undo_or_restore(self):
        desk = Desk(HOUSE, TASK)
        self.assertRaises(NothingToUndo, desk.undo)
        self.assertRaises(NothingToRedo, desk.redo)
        desk.put_pick((0, 0))
        self.assertRaises(NothingToRedo, desk.redo)
        desk.undo()
        self.assertRaises(NothingToUndo, desk.undo)
        desk.redo()
        self.assertRaises(NothingToRedo, desk.redo)
        self.assertEqual(desk.task_now().picks, [(0, 0), (1, 1)])


class UndoAndRedo(unittest.TestCase):
    def test_a_change_discards_what_could_be_restored(self):
        desk = Desk(HOUSE, TASK)
        for place in [(0, 0), (0, 1), (0, 2)]:
            desk.put_pick(place)
        desk.undo()
        desk.undo()
        desk.close_link(("up", 2, 0))
        self.assertRaises(NothingToRedo, desk.redo)
        self.assertEqual(desk.task_now().picks, [(0, 0), (1, 1)])
        desk.undo()
        desk.undo()
        self.assertEqual(state(desk), (helpers.house_state(HOUSE), helpers.task_state(TASK)))
        desk.redo()
        desk.redo()
        self.assertEqual(desk.house_now().closed, [("up", 0, 1), ("up", 2, 0)])

    def test_what_discards_nothing(self):
        desk = Desk(HOUSE, TASK)
        for place in [(0, 0), (0, 1), (0, 2)]:
            desk.put_pick(place)
        desk.undo()
        desk.undo()
        before = history(desk)
        self.assertRaises(PickTaken, desk.put_pick, (1, 1))
        self.assertRaises(InvalidLink, desk.free_link, ("up", 2, 0))
        desk.answer()
        desk.house_now()
        desk.task_now()
        desk.change_all([])
        with desk.trial():
            pass
        with self.assertRaises(Left):
            with desk.trial():
                desk.put_pick((2, 2))
                raise Left
        self.assertEqual(history(desk), before)
        self.assertEqual(before[:2], (1, 2))

    def test_ends_that_stay_are_a_change(self):
        desk = Desk(HOUSE, TASK)
        desk.put_pick((0, 0))
        desk.undo()
        desk.set_ends(TASK.start, TASK.end)
        self.assertRaises(NothingToRedo, desk.redo)
        self.assertEqual(history(desk)[:2], (1, 0))


class Answers(unittest.TestCase):
    def test_answers(self):
        desk = Desk(HOUSE, TASK)
        self.assertEqual(desk.found, 0)
        self.assertEqual([desk.answer(), desk.found], [helpers.least_round_length(HOUSE, TASK), 1])
        desk.put_pick((0, 1))
        self.assertEqual(desk.found, 1)
        self.assertEqual([desk.answer(), desk.found], [helpers.least_round_length(HOUSE, TASK.with_pick((0, 1))), 2])

    def test_each_pair_is_found_once(self):
        desk = Desk(HOUSE, TASK)
        desk.answer()
        desk.put_pick((0, 1))
        desk.answer()
        desk.undo()
        desk.answer()
        desk.redo()
        desk.answer()
        desk.take_pick((0, 1))
        desk.answer()
        desk.close_link(("up", 2, 0))
        desk.free_link(("up", 2, 0))
        desk.answer()
        desk.set_ends((0, 0), (1, 0))
        desk.set_ends((0, 0), (2, 3))
        desk.answer()
        self.assertEqual(desk.found, 2)
        desk.take_pick((1, 1))
        desk.put_pick((2, 2))
        desk.put_pick((1, 1))
        first = desk.answer()
        desk.change_all([("take", (2, 2)), ("take", (1, 1)), ("put", (1, 1)), ("put", (2, 2))])
        self.assertEqual([desk.answer(), desk.found], [first, 3])

    def test_closed_links_in_another_order(self):
        desk = Desk(House([2], [1], [("up", 0, 1), ("over", 0, 2)]), Task((0, 0), (1, 0), []))
        desk.answer()
        desk.change_all([("free", ("up", 0, 1)), ("free", ("over", 0, 2)), ("close", ("over", 0, 2)),
                         ("close", ("up", 0, 1))])
        desk.answer()
        self.assertEqual(desk.found, 1)

    def test_start_and_end_are_told_apart(self):
        desk = Desk(House([2], [1], []), Task((0, 0), (1, 2), []))
        desk.answer()
        desk.set_ends((1, 2), (0, 0))
        desk.answer()
        self.assertEqual(desk.found, 2)

    def test_no_round_is_kept_too(self):
        desk = Desk(House([2], [1], [("over", 0, 0), ("over", 0, 2)]), Task((0, 0), (1, 0), []))
        self.assertEqual([desk.answer(), desk.answer(), desk.found], [None, None, 1])

    def test_answers_of_a_trial_stay(self):
        for error in (False, True):
            desk = Desk(HOUSE, TASK)
            try:
                with desk.trial():
                    desk.put_pick((0, 1))
                    desk.answer()
                    if error:
                        raise Left
            except Left:
                pass
            self.assertEqual(desk.found, 1)
            if error:
                desk.put_pick((0, 1))
            desk.answer()
            self.assertEqual(desk.found, 1)


class Trials(unittest.TestCase):
    def test_the_desk_is_entered(self):
        desk = Desk(HOUSE, TASK)
        trial = desk.trial()
        self.assertIsInstance(trial, Trial)
        with trial as entered:
            self.assertIs(entered, desk)
        with Trial(desk) as entered:
            self.assertIs(entered, desk)

    def test_changes_stay(self):
        desk = Desk(HOUSE, TASK)
        with desk.trial():
            desk.put_pick((0, 0))
            desk.close_link(("up", 2, 0))
        self.assertEqual((desk.task_now().picks, len(desk.house_now().closed)), ([(0, 0), (1, 1)], 2))
        self.assertEqual(history(desk)[:2], (2, 0))

    def test_an_error_takes_all_back(self):
        desk = Desk(HOUSE, TASK)
        for place in [(0, 0), (0, 1), (0, 2), (2, 2)]:
            desk.put_pick(place)
        desk.undo()
        before = history(desk)
        error = Left("told")
        with self.assertRaises(Left) as caught:
            with desk.trial():
                desk.undo()
                desk.undo()
                desk.close_link(("up", 2, 0))
                desk.set_ends((1, 0), (1, 0))
                desk.undo()
                raise error
        self.assertIs(caught.exception, error)
        self.assertEqual(history(desk), before)
        self.assertEqual(before[:2], (3, 1))

    def test_what_was_ahead_of_the_block_is_kept_as_it_was_when_it_was_entered(self):
        desk = Desk(HOUSE, TASK)
        trial = desk.trial()
        desk.put_pick((0, 0))
        before = history(desk)
        with self.assertRaises(Left):
            with trial:
                desk.undo()
                desk.put_pick((0, 1))
                raise Left
        self.assertEqual(history(desk), before)

    def test_nested(self):
        desk = Desk(HOUSE, TASK)
        with desk.trial():
            desk.put_pick((0, 0))
            with self.assertRaises(PickTaken):
                with desk.trial():
                    desk.put_pick((0, 1))
                    with desk.trial():
                        desk.put_pick((0, 2))
                    desk.put_pick((1, 1))
            self.assertEqual(desk.task_now().picks, [(0, 0), (1, 1)])
            desk.put_pick((2, 2))
        self.assertEqual(desk.task_now().picks, [(0, 0), (1, 1), (2, 2)])
        self.assertEqual(history(desk)[:2], (2, 0))

    def test_an_error_of_a_nested_trial_that_goes_on(self):
        desk = Desk(HOUSE, TASK)
        desk.put_pick((0, 0))
        desk.undo()
        before = history(desk)
        with self.assertRaises(UnknownPick):
            with desk.trial():
                desk.put_pick((0, 1))
                with desk.trial():
                    desk.put_pick((0, 2))
                    desk.take_pick((7, 7))
        self.assertEqual(history(desk), before)

    def test_20_deep(self):
        for kept in range(20):
            desk = Desk(House([40], [], []), Task((0, 0), (0, 0), []))
            with suppress(Left):
                put_deeper(desk, 1, kept, True)
            self.assertEqual(desk.task_now().picks, [(0, depth) for depth in range(1, kept + 1)])
            self.assertEqual(history(desk)[:2], (kept, 0))
        desk = Desk(House([40], [], []), Task((0, 0), (0, 0), []))
        put_deeper(desk, 1, 0, False)
        self.assertEqual(history(desk)[:2], (20, 0))


class ChangeAll(unittest.TestCase):
    def test_each_deed(self):
        desk = Desk(HOUSE, TASK)
        self.assertIsNone(desk.change_all([
            ("put", (0, 2)), ("take", (1, 1)), ("close", ("over", 1, 3)),
            ("all", [("free", ("up", 0, 1)), ("all", []), ("ends", (1, 2), (1, 2))]), ("put", (0, 0))]))
        self.assertEqual(desk.house_now().closed, [("over", 1, 3)])
        self.assertEqual(helpers.task_state(desk.task_now()), ((1, 2), (1, 2), [(0, 0), (0, 2)]))
        undone, _, told = history(desk)
        self.assertEqual(undone, 6)
        self.assertEqual([len(row[1][2]) for row in told], [2, 1, 1, 1, 1, 2, 1])

    def test_an_empty_list(self):
        desk = Desk(HOUSE, TASK)
        desk.put_pick((0, 0))
        desk.undo()
        before = history(desk)
        desk.change_all([])
        desk.change_all([("all", []), ("all", [("all", [])])])
        self.assertEqual(history(desk), before)

    def test_one_that_raises(self):
        desk = Desk(HOUSE, TASK)
        desk.put_pick((0, 0))
        desk.put_pick((0, 1))
        desk.undo()
        before = history(desk)
        for wrong, error, told in [(("put", (0, 9)), InvalidPlace, {"place": (0, 9)}),
                                   (("put", (2, 2)), PickTaken, {"place": (2, 2)}),
                                   (("take", (0, 1)), UnknownPick, {"place": (0, 1)}),
                                   (("close", ("up", 0, 1)), InvalidLink, {}),
                                   (("ends", (0, 0), (0, 1)), InvalidPlace, {"place": (0, 1)})]:
            for deeds in [[("put", (2, 2)), wrong, ("put", (9, 9))], [("all", [("put", (2, 2))]), ("all", [wrong])],
                          [("put", (2, 2)), ("all", [("close", ("up", 2, 0)), ("all", [wrong])]), ("put", (9, 9))]]:
                with self.assertRaises(error) as caught:
                    desk.change_all(deeds)
                self.assertEqual(vars(caught.exception), told)
                self.assertEqual(history(desk), before)

    def test_20_deep(self):
        deeds = [("put", (0, 20))]
        for height in range(19, 0, -1):
            deeds = [("put", (0, height)), ("all", deeds)]
        desk = Desk(House([40], [], []), Task((0, 0), (0, 0), []))
        desk.change_all(deeds)
        self.assertEqual(desk.task_now().picks, [(0, height) for height in range(1, 21)])
        self.assertEqual(history(desk)[:2], (20, 0))
        with self.assertRaises(PickTaken) as caught:
            desk.change_all([("put", (0, 30)), ("all", deeds)])
        self.assertEqual(caught.exception.place, (0, 1))
        self.assertEqual(history(desk)[:2], (20, 0))

    def test_in_a_trial(self):
        desk = Desk(HOUSE, TASK)
        with self.assertRaises(Left):
            with desk.trial():
                desk.change_all([("put", (0, 0)), ("put", (0, 1))])
                raise Left
        self.assertEqual(history(desk)[:2], (0, 0))


if __name__ == "__main__":
    unittest.main()
