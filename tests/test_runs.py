"""Point [11]: runs."""

import random
import unittest

from surehand.errors import HandError, NoRun
from surehand.runs import along, is_run
from surehand.shelves import Shelf
from tests.helper import (Angry, SIZES, WAYS, all_bits, chance_run, nested, odd_lists, odd_things, shown, state,
                          told_lay)

WEB = [((1, 5), (1, 2)), ((), (0, 3)), ((1,), (2, 3)), ((0, 99), ()), ((5,), (0, 4))]
RUN = [(0, 5), (1, None), (0, 1), (2, 1), (2, 1), (3, 99)]


def chance_web(chance):
    """A web by chance, all of whose rows lead on."""
    rows = chance.randint(1, 9)
    return [(tuple(sorted(chance.sample(range(7), chance.randint(0, 3)))),
             tuple(sorted(chance.sample(range(rows), chance.randint(1, rows))))) for _ in range(rows)]


class RunCase(unittest.TestCase):

    def let_by(self, web, run):
        web_before, run_before = list(web), list(run)
        self.assertIs(is_run(web, run), True)
        self.assertEqual(len(along(web, run, Shelf())), len(run))
        self.assertEqual((web, run), (web_before, run_before))

    def refused(self, web, thing, number):
        with self.subTest(shown(thing)):
            shelf = Shelf(2, "last", (1, 5))
            before = state(shelf)
            self.assertIs(is_run(web, thing), False)
            with self.assertRaises(NoRun) as caught:
                along(web, thing, shelf)
            self.assertEqual(caught.exception.number, number)
            self.assertIsInstance(caught.exception, HandError)
            self.assertEqual(state(shelf), before)


class TestIsRun(RunCase):

    def test_runs(self):
        for many in range(1, len(RUN) + 1):
            self.let_by(WEB, RUN[:many])
        self.let_by(WEB, [(0, 1)])
        self.let_by([((), ())], [(0, None)])
        self.let_by([((), (0,))], [(0, None)] * 7)
        self.assertIs(is_run(thing=RUN, web=WEB), True)
        self.assertIs(is_run(thing=[], web=WEB), False)

    def test_runs_by_chance(self):
        chance = random.Random(11)
        for _ in range(200):
            web = chance_web(chance)
            self.let_by(web, chance_run(chance, web, 30))

    def test_no_list(self):
        for thing in [tuple(RUN), RUN[0], 0, 5, (), {0: (0, 5)}, *odd_things(), nested(3000, lambda one: (one,), [])]:
            self.refused(WEB, thing, None)

    def test_how_many_steps(self):
        ring = [((3,), (0,))]
        self.refused(ring, [], None)
        for many in (1, 2, 19999, 20000):
            self.let_by(ring, [(0, 3)] * many)
        for many in (20001, 20002, 30000):
            self.refused(ring, [(0, 3)] * many, None)
        self.refused(ring, [Angry()] * 20001, None)
        self.refused(ring, [(0, 3)] * 19999 + [(0, 4)], 19999)
        self.refused(ring, [(0, 3)] * 10000 + [None] + [(0, 3)] * 9999, 10000)

    def test_rows(self):
        for row in range(-2, 7):
            if row != 0:
                self.refused(WEB, [(row, 5)], 0)
                self.refused(WEB, [(row, None)], 0)
                self.refused(WEB, [(row, 1)], 0)
        self.refused(WEB, [(0, 5), (0, 5)], 1)
        self.refused(WEB, [(0, 5), (3, 99)], 1)
        self.refused(WEB, [(0, 5), (4, 5)], 1)
        self.refused(WEB, [(0, 5), (5, None)], 1)
        self.refused(WEB, [(0, 5), (-4, None)], 1)
        self.refused(WEB, [(0, 5), (2, 1), (3, 0), (0, 5)], 3)
        self.refused(WEB, [(0, 5), (2, 1), (3, 0), (3, 0)], 3)
        self.refused([((), ()), ((), (0,))], [(1, None)], 0)
        self.refused([((1,), ())], [(0, 1), (0, 1)], 1)

    def test_rooms(self):
        for room in (0, 2, 4, 6, 99, -1, 100, None):
            self.refused(WEB, [(0, room)], 0)
            self.refused(WEB, [(0, 1), (1, None), (0, room), (1, None)], 2)
        for room in (0, 1, 5, -1):
            self.refused(WEB, [(0, 5), (1, room)], 1)
        self.refused([((0, 1), (0,))], [(0, False)], 0)
        self.refused([((0, 1), (0,))], [(0, 0), (0, True)], 1)

    def test_no_steps(self):
        for thing in [(0,), (0, 5, 5), [0, 5], (5, 0), ((0, 5),), "05", {0: 5}, (False, 5), (None, 5), ("0", 5),
                      (0, (5,)), (0, "5"), (0, [5]), ((0,), 5), 0, (0, Angry()), (Angry(), 5), (10 ** 50, 5),
                      (0, 10 ** 50), *odd_things(), *odd_lists()]:
            self.refused(WEB, [thing], 0)
            self.refused(WEB, [thing, Angry()], 0)
            self.refused(WEB, [(0, 5), (1, None), thing], 2)
            self.refused(WEB, [(0, 5), (1, None), thing, (0, 5)], 2)
        for thing in odd_things():
            if thing is not None:
                self.refused(WEB, [(0, 1), (1, thing)], 1)
            self.refused(WEB, [(0, 1), (thing, None)], 1)
            self.refused(WEB, [(0, thing)], 0)
        self.refused(WEB, [(0, 5), (True, None)], 1)
        ring = []
        ring.append(ring)
        self.refused(WEB, ring, 0)


class TestAlong(RunCase):

    def test_by_hand(self):
        self.assertEqual(along(WEB, RUN, Shelf()), [False, None, False, True, True, False])
        self.assertEqual(along(WEB, RUN, Shelf(1)), [False, None, False, True, True, False])
        self.assertEqual(along(WEB, RUN, Shelf(2, "last", (7, 5))), [True, None, False, True, True, False])
        self.assertEqual(along(WEB, [(0, 5)], Shelf(2, "last", (7, 5))), [True])
        self.assertEqual(along([((), ())], [(0, None)], Shelf()), [None])

    def test_the_ways_differ(self):
        web = [((1, 2, 3), (0,))]
        run = [(0, room) for room in (1, 2, 1, 3, 1, 2)]
        self.assertEqual(along(web, run, Shelf(2, "last")), [False, False, True, False, True, False])
        self.assertEqual(along(web, run, Shelf(2, "first")), [False, False, True, False, False, False])
        self.assertEqual(along(web, run, Shelf(2, "tree", (2, 9), (1,))), [False, True, True, False, True, False])

    def test_each_way_by_chance(self):
        chance = random.Random(12)
        for way in WAYS:
            for size in SIZES[way]:
                for _ in range(8):
                    web = chance_web(chance)
                    run = chance_run(chance, web, 60)
                    slots = chance.sample([0, 1, 2, 3, 4, 5, 6, 50, -1], size)
                    self.check(web, run, size, way, (tuple(slots), chance.choice(all_bits(size, way))))

    def check(self, web, run, size, way, lay):
        shelf = Shelf(size, way, *lay)
        shelf.ask(3)
        shelf.ask(3)
        before, web_before, run_before = state(shelf), list(web), list(run)
        told = along(web, run, shelf)
        must, now = [], shelf.lay()
        for _, room in run:
            if room is None:
                must.append(None)
            else:
                now, near = told_lay(now, room, way)
                must.append(near)
        self.assertEqual(told, must)
        for one, other in zip(told, must):
            self.assertIs(one, other)
        self.assertEqual(state(shelf), before)
        self.assertEqual((web, run), (web_before, run_before))
        told.append(5)
        told[0] = "x"
        self.assertEqual(along(web, run, shelf), must)

    def test_by_names(self):
        self.assertEqual(along(shelf=Shelf(1), run=RUN, web=WEB), [False, None, False, True, True, False])

    def test_a_long_run(self):
        web = [((1, 2, 3), (0,))]
        run = [(0, 1 + step % 3) for step in range(20000)]
        self.assertEqual(along(web, run, Shelf(2)), [False] * 20000)
        self.assertEqual(along(web, run, Shelf(3)), [False] * 3 + [True] * 19997)


if __name__ == "__main__":
    unittest.main()
