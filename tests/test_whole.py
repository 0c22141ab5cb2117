"""Points [1] to [70] over the whole program: all parts tell the same least lengths, and what is written is read."""

import random
import unittest

import helpers
from pickaisle.batches import least_parting, lot_length, worth
from pickaisle.desk import Desk
from pickaisle.euler import is_walk_of, runs_of, walk_by, walk_of
from pickaisle.extras import extra, extras_of, free_places, lengths_behind, saving
from pickaisle.houses import House
from pickaisle.least import all_plans, count_plans, least_plan, told_numbers
from pickaisle.mirrors import flipped_house, flipped_task, swapped_house, swapped_task
from pickaisle.notation import format_house, format_task, format_walk, parse_house, parse_task, parse_walk
from pickaisle.papers import check_paper, gives, least_round, paper_for
from pickaisle.plans import plan_length, plan_of_walk, trimmed
from pickaisle.rounds import is_round, nearest_round, turned_walk, walk_length
from pickaisle.rules import is_plain, plain_bound, rule_length
from pickaisle.session import Session
from pickaisle.store import Store
from pickaisle.tables import least_length, lengths_from
from pickaisle.tasks import Task
from pickaisle.trees import tree_bounds
from pickaisle.ways import cut_off


def drawn_house(chance):
    """A house by chance, with up to 5 aisles and up to 4 closed links."""
    lengths = [chance.randint(1, 4) for _ in range(chance.randint(1, 2))]
    gaps = [chance.randint(1, 4) for _ in range(chance.randint(0, 4))]
    links = House(lengths, gaps, []).walked_links()
    return House(lengths, gaps, chance.sample(links, min(chance.randint(0, 4), len(links) - 1)))


def drawn_task(chance, house):
    """A task by chance that fits the house, with up to 6 picks."""
    places = house.places()
    crosses = [place for place in places if house.is_cross(place)]
    start = chance.choice(crosses)
    end = chance.choice([start, chance.choice(crosses)])
    return Task(start, end, chance.sample(places, min(len(places), chance.randint(0, 6))))


def drawn_cases():
    chance = random.Random(70)
    found = []
    for _ in range(80):
        house = drawn_house(chance)
        found.append((house, drawn_task(chance, house)))
    return found


class LeastLengths(unittest.TestCase):
    def test_whether_there_is_a_round(self):
        none = 0
        for house, task in drawn_cases():
            length = helpers.least_round_length(house, task)
            self.assertEqual(least_length(house, task), length)
            if length is None:
                mark = cut_off(house, task)
                self.assertIsNotNone(mark)
                self.assertIs(check_paper(house, task, paper_for(house, task), None), True)
                self.assertEqual(Session(house, task).play("length\nwalk"), ["none", "none"])
                self.assertEqual([Desk(house, task).answer(), lengths_behind(house, task)[0]], [None, {}])
                none += 1
        self.assertTrue(5 < none < 60)

    def with_rounds(self):
        cases = drawn_cases() + [(helpers.large_house(), helpers.large_task())]
        return [(house, task, least_length(house, task)) for house, task in cases if cut_off(house, task) is None]

    def test_rounds_plans_and_papers(self):
        for house, task, length in self.with_rounds():
            best = least_round(house, task)
            self.assertIs(is_round(house, task, best.walk), True)
            self.assertEqual((best.length, walk_length(house, best.walk)), (length, length))
            self.assertEqual([check_paper(house, task, best.paper, length + more) for more in (0, 1)], [True, False])
            plan = least_plan(house, task)
            self.assertEqual((plan_length(house, plan), plan), (length, trimmed(house, task, plan)))
            self.assertEqual(gives(house, task, best.paper, plan), [0] * house.aisles)
            self.assertEqual(plan_length(house, plan_of_walk(house, best.walk)), length)
            self.assertIs(is_walk_of(house, task, plan, walk_of(house, task, plan)), True)
            self.assertEqual(walk_by(task.start, runs_of(best.walk)), best.walk)
            told = told_numbers(house, task)
            self.assertTrue(all(plan.get(link, 0) in numbers for link, numbers in told.items()))
            if count_plans(house, task) <= 2000:
                self.assertIn(plan, all_plans(house, task))
            self.assertEqual((lengths_from(house, task)[-1], lengths_behind(house, task)[0]),
                             ({"done": length}, {"none": length}))

    def test_bounds_and_other_rounds(self):
        plain = 0
        for house, task, length in self.with_rounds():
            low, high = tree_bounds(house, task)
            self.assertTrue(low <= length <= min(high, walk_length(house, nearest_round(house, task))))
            if is_plain(house, task):
                self.assertTrue(plain_bound(house, task) <= length)
                self.assertTrue(all(length <= rule_length(house, task, rule)
                                    for rule in ("back", "through", "middle", "gap")))
                plain += 1
        self.assertGreater(plain, 0)

    def test_turned_and_mirrored(self):
        for house, task, length in self.with_rounds():
            walk = least_round(house, task).walk
            self.assertIs(is_round(house, task.turned(), turned_walk(walk)), True)
            for turned, other in [(house, task.turned()), (flipped_house(house), flipped_task(house, task)),
                                  (swapped_house(house), swapped_task(house, task))]:
                self.assertEqual(least_length(turned, other), length)
                self.assertEqual(least_round(turned, other).length, length)
                self.assertEqual(count_plans(turned, other), count_plans(house, task))

    def test_stores_desks_and_sessions(self):
        for house, task, length in self.with_rounds():
            store, desk = Store(house, task.start, task.end), Desk(house, Task(task.start, task.end, []))
            session = Session(house, Task(task.start, task.end, []))
            for pick in task.picks:
                store.put(pick)
                desk.put_pick(pick)
                session.obey("pick {} {}".format(*pick))
            self.assertEqual((store.length(), desk.answer(), session.obey("length")), (length, length, str(length)))
            self.assertEqual(walk_length(house, parse_walk(session.obey("walk"))), length)
            for link in house.closed:
                desk.free_link(link)
            opened = House(house.lengths, house.gaps, [])
            self.assertEqual(desk.answer(), least_length(opened, task))
            self.assertLessEqual(desk.answer(), length)

    def test_extras_savings_and_free_places(self):
        for house, task, length in self.with_rounds()[:-1]:
            extras = extras_of(house, task)
            free = free_places(house, task)
            self.assertTrue(set(least_round(house, task).walk) <= set(free))
            for place in house.places()[::3]:
                if extras[place] is not None and not task.has_pick(place):
                    more = task.with_pick(place)
                    self.assertEqual(least_length(house, more), length + extras[place])
                    self.assertEqual(saving(house, more, place), extras[place])
                    self.assertEqual(extra(house, task, place), extras[place])

    def test_partings(self):
        for house, task, length in self.with_rounds():
            if len(task.picks) >= 3:
                orders = [task.picks[at::3][:10] for at in range(3)]
                picks = sorted(pick for order in orders for pick in order)
                whole = least_length(house, Task(task.start, task.end, picks))
                self.assertEqual(lot_length(house, task.start, task.end, orders, (0, 1, 2)), whole)
                single = [least_length(house, Task(task.start, task.end, order)) for order in orders]
                self.assertEqual(least_parting(house, task.start, task.end, orders, 1),
                                 (sum(single), [(0,), (1,), (2,)]))
                pair = single[2] + single[0] + single[1] - worth(house, task.start, task.end, orders[0], orders[1])
                self.assertLessEqual(least_parting(house, task.start, task.end, orders, 2)[0], min(pair, sum(single)))
                self.assertLessEqual(least_parting(house, task.start, task.end, orders, 6)[0], min(whole, pair))


class Written(unittest.TestCase):
    def test_what_is_written_is_read_again(self):
        for house, task in drawn_cases():
            read, also = parse_house(format_house(house)), parse_task(format_task(task))
            self.assertIs(read.same_as(house), True)
            self.assertIs(also.same_as(task), True)
            self.assertEqual(Session(read, also).play("house\ntask"), [format_house(house), format_task(task)])
            if cut_off(house, task) is None:
                walk = least_round(read, also).walk
                self.assertEqual(parse_walk(format_walk(walk)), walk)


if __name__ == "__main__":
    unittest.main()
