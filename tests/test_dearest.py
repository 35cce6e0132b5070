"""Point [23]: the dearest run."""

import copy
import random
import unittest

from surehand.costs import lets_costs, told_cost
from surehand.dearest import dearest
from surehand.errors import TooMany
from surehand.lays import lays_many
from surehand.runs import is_run
from surehand.shelves import Shelf
from surehand.walks import Walk
from tests.helper import (SIZES, WAYS, WEBS, all_runs, cost_of, ending_web, ends, lays_of_web, line, told_stands)

# Two ways from row 0 to row 3; no run comes to row 4, which leads to itself.
WEB = [((1,), (1, 2)), ((2,), (3,)), ((1,), (3,)), ((1, 3), ()), ((1,), (3, 4))]
PRICES = ((1, 10), (10, 1), (0, 0), (10 ** 9, 10 ** 9), (0, 7), (3, 0))


class DearestCase(unittest.TestCase):

    def check_answer(self, web, size, way, near, far):
        """What is told fits together; tell the cost."""
        told = dearest(web, size, way, near, far)
        self.assertIsInstance(told, tuple)
        cost, lay, run, paper = told
        self.assertIn(lay, lays_of_web(web, size, way))
        self.assertIs(is_run(web, run), True)
        self.assertEqual(web[run[-1][0]][1], ())
        self.assertEqual(cost_of(run, lay, way, near, far), cost)
        self.check_walk(web, Shelf(size, way, *lay), run, near, far, cost)
        self.assertIs(lets_costs(web, paper, size, way, near, far), True)
        self.assertEqual(told_cost(paper), cost)
        return cost

    def check_walk(self, web, shelf, run, near, far, cost):
        walk = Walk(web, shelf)
        for (_, room), (to, _) in zip(run, run[1:] + [(None, None)]):
            walk.step(room, to)
        self.assertIsNone(walk.at())
        self.assertEqual(walk.counts()[0] * near + walk.counts()[1] * far, cost)

    def check_all(self, web, size, way, near, far):
        """The told cost is the greatest of all runs and all lays."""
        cost = self.check_answer(web, size, way, near, far)
        runs, lays = all_runs(web), lays_of_web(web, size, way)
        self.assertEqual(cost, max(cost_of(run, lay, way, near, far) for run in runs for lay in lays))


class TestDearest(DearestCase):

    def test_by_hand(self):
        self.assertEqual(dearest([((), ())], 1), (0, ((-1,), ()), [(0, None)], [[(((-1,), ()), 0)]]))
        self.assertEqual(dearest([((4,), ())], 1)[0], 10)
        self.assertEqual(dearest([((4,), ())], 1, "last", 5, 3)[:3], (5, ((4,), ()), [(0, 4)]))
        self.assertEqual(dearest(WEB, 1)[0], 30)
        self.assertEqual(dearest(WEB, 1)[2][1], (1, 2))
        self.assertEqual(dearest(WEB, 2)[0], 30)
        self.assertEqual(dearest(WEB, 2)[2], [(0, 1), (1, 2), (3, 3)])
        self.assertEqual(dearest(WEB, 2, "last", 10, 1)[0], 30)
        self.assertEqual(dearest(WEB), dearest(WEB, 4, "last", 1, 10))
        self.assertEqual(dearest(far=10, near=1, way="tree", size=2, web=WEB), dearest(WEB, 2, "tree"))
        self.assertEqual(dearest(WEB, 2, "first", 0, 0)[0], 0)

    def test_what_lay_first_matters(self):
        # By `first` what is at hand stays where it is: so room 1 may be left out between two asks for it.
        web = line([(1,), (2,), (1,)])
        self.assertEqual(dearest(web, 2, "first")[0], 21)
        self.assertEqual(dearest(web, 2, "last")[0], 21)
        self.assertEqual(dearest(line([(1,), (2,), (3,), (1,)]), 3, "last")[0], 31)
        self.assertEqual(dearest(line([(1,), (2,), (3,), (1,)]), 3, "first", 0, 1)[0], 3)
        self.assertEqual(dearest(line([(1,), (2,), (3,), (1,)]), 2, "last")[0], 40)

    def test_against_all_runs(self):
        chance = random.Random(51)
        webs = [web for web in WEBS if ends(web)] + [ending_web(chance, 7, range(1, 5)) for _ in range(30)] + [WEB]
        for web in webs:
            before = copy.deepcopy(web)
            for way in WAYS:
                for size in SIZES[way]:
                    if lays_many(web, size, way) * len(all_runs(web)) <= 1500:
                        self.check_all(web, size, way, *chance.choice(PRICES))
            self.assertEqual(web, before)

    def test_each_price(self):
        for near, far in PRICES + ((10 ** 9, 0), (0, 10 ** 9)):
            for way in WAYS:
                self.check_all(WEB, 2, way, near, far)

    def test_near_above_far(self):
        web = line([(1, 2), (1, 2), (2, 3)])
        self.assertEqual(dearest(web, 2, "last", 9, 2)[0], 27)
        self.assertEqual(dearest(line([(1,), (2,), (1,)]), 1, "last", 9, 2)[0], 13)

    def test_eighty_rows_in_a_line(self):
        web = line([(row % 3,) for row in range(80)])
        self.assertEqual(self.check_answer(web, 2, "last", 1, 10), 800)
        self.assertEqual(self.check_answer(web, 3, "last", 1, 10), 107)
        self.assertEqual(self.check_answer(web, 2, "last", 10 ** 9, 10 ** 9), 80 * 10 ** 9)
        self.check_answer(web, 2, "tree", 1, 10)
        self.check_answer(web, 3, "first", 1, 10)
        self.assertEqual(dearest(line([()] * 80), 8, "tree")[0], 0)

    def test_about_twenty_thousand(self):
        few, many = line([range(5)] * 39), line([range(5)] * 40)
        self.assertEqual(self.check_answer(few, 4, "last", 1, 10), 390)
        self.assertRaises(TooMany, dearest, many, 4, "last")
        dense = [(tuple(range(6)), tuple(range(row + 1, 80))) for row in range(80)]
        self.assertEqual(self.check_answer(dense, 2, "first", 1, 10), 800)

    def test_rings_to_which_no_run_comes(self):
        web = line([(1,), (2,)]) + [((1,), (2, 3)), ((2,), (0, 2))]
        self.check_all(web, 2, "first", 1, 10)
        self.assertEqual(dearest(web, 1)[0], 20)
        self.assertEqual(len(dearest(web, 1)[3]), 4)

    def test_all_that_comes_is_on_the_paper(self):
        for way in WAYS:
            paper = dearest(WEB, 2, way)[3]
            for pairs, lays in zip(paper, told_stands(WEB, 2, way)):
                self.assertLessEqual(set(lays), {lay for lay, _ in pairs})

    def test_what_is_told_is_the_askers_own(self):
        web = line([(), (), ()])
        told = dearest(web, 1)
        must = copy.deepcopy(told)
        told[3][0].append(5)
        self.assertEqual(told[3][1:], must[3][1:])
        told[3][1].clear()
        told[3].pop()
        told[2].clear()
        self.assertEqual(dearest(web, 1), must)


if __name__ == "__main__":
    unittest.main()
