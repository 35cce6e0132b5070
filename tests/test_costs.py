"""Point [22]: webs that end, and papers."""

import copy
import random
import unittest

from surehand.costs import is_ending, lets_costs, told_cost
from surehand.dearest import dearest
from surehand.errors import Endless, HandError, NoCost, NoShelf, NoWeb, TooMany
from surehand.lays import stands
from surehand.ways import asked
from tests.helper import (Angry, WAYS, WEBS, all_runs, cost_of, ending_web, ends, lays_of_web, line, odd_lists, odd_things,
                          shown, some_webs)

# Room 1, then it or room 2, then nothing; no run comes to row 3, which leads to itself.
WEB = [((1,), (1,)), ((1, 2), (2,)), ((), ()), ((2,), (2, 3))]
NONE, ONE, TWO = ((-1,), ()), ((1,), ()), ((2,), ())
PAPER = [[(NONE, 20), (ONE, 11), (TWO, 20)], [(ONE, 10)], [(ONE, 0), (TWO, 0)], []]
GREAT = line([(row % 12,) for row in range(80)])


def is_paper(web, paper, size, way, near, far):
    """Whether lists of lays of the web with numbers are a paper, word by word as the point tells it."""
    lays = [[lay for lay, _ in pairs] for pairs in paper]
    if sorted(lays[0]) != lays_of_web(web, size, way) or any(len(set(one)) != len(one) for one in lays):
        return False
    numbers = [dict(pairs) for pairs in paper]
    for row, (rooms, tos) in enumerate(web):
        for lay, number in paper[row]:
            for room in rooms or (None,):
                behind, at_hand = (lay, None) if room is None else asked(lay, room, way)
                price = {None: 0, True: near, False: far}[at_hand]
                if number < price or any(behind not in numbers[to] or number < price + numbers[to][behind]
                                         for to in tos):
                    return False
    return True


class TestEnding(unittest.TestCase):

    def test_by_hand(self):
        self.assertIs(is_ending(WEB), True)
        self.assertIs(is_ending([((), ())]), True)
        self.assertIs(is_ending([((), (0,))]), False)
        self.assertIs(is_ending([((1,), (1,)), ((2,), (0, 2)), ((3,), ())]), False)
        self.assertIs(is_ending([((1,), (1,)), ((2,), (1, 2)), ((3,), ())]), False)
        self.assertIs(is_ending([((1,), (1, 2)), ((), ()), ((3,), ()), ((4,), (0, 3))]), True)
        self.assertIs(is_ending([((1,), (1,)), ((2,), ()), ((3,), (3,)), ((4,), (2,))]), True)
        self.assertIs(is_ending([((1,), (1, 2)), ((2,), ()), ((3,), (3,)), ((4,), (2,))]), False)
        self.assertIs(is_ending(web=GREAT), True)
        self.assertIs(is_ending(GREAT[:79] + [((), (79,))]), False)
        self.assertIs(is_ending(GREAT[:79] + [((), (0,))]), False)

    def test_dense(self):
        web = [((), tuple(range(row + 1, 80))) for row in range(80)]
        self.assertIs(is_ending(web), True)
        self.assertIs(is_ending(web[:79] + [((), (40,))]), False)
        self.assertIs(is_ending([((), tuple(range(80)))] * 80), False)
        turned = [((), (79,))] + [((), tuple(range(1, row))) for row in range(1, 80)]
        self.assertIs(is_ending(turned), True)

    def test_against_another_reckoning(self):
        chance = random.Random(41)
        found = {True: 0, False: 0}
        for web in some_webs(chance, 150) + [ending_web(chance, 8, range(4)) for _ in range(50)]:
            before = copy.deepcopy(web)
            self.assertIs(is_ending(web), ends(web), web)
            self.assertEqual(web, before)
            found[ends(web)] += 1
        self.assertGreater(min(found.values()), 40)


class TestPapers(unittest.TestCase):

    def lets(self, thing, must, web=None, size=1, way="last", near=1, far=10):
        with self.subTest(shown(thing)):
            self.assertIs(lets_costs(WEB if web is None else web, thing, size, way, near, far), must)

    def with_row(self, row, pairs):
        return PAPER[:row] + [pairs] + PAPER[row + 1:]

    def test_by_hand(self):
        self.lets(PAPER, True)
        self.assertEqual(told_cost(PAPER), 20)
        self.assertEqual(told_cost(paper=[[(ONE, 0)], [(TWO, 9)]]), 0)
        self.assertEqual(told_cost([[(ONE, 3), (TWO, 5), (NONE, 4)], []]), 5)
        self.assertIs(lets_costs(far=10, near=1, way="last", size=1, thing=PAPER, web=WEB), True)
        self.assertIs(lets_costs(WEB, PAPER), False)
        self.assertIs(lets_costs(WEB, PAPER, 1), True)
        self.lets([pairs[::-1] for pairs in PAPER], True)
        self.lets([[((), 0)]], False, [((), ())])
        self.lets([[(NONE, 0)]], True, [((), ())])
        self.lets([[(NONE, 0)]], True, [((), ())], 1, "tree")

    def test_what_is_left_out(self):
        paper = dearest(WEB)[3]
        self.assertIs(lets_costs(WEB, paper), True)
        self.assertIs(lets_costs(WEB, paper, 4, "last", 1, 10), True)
        self.assertIs(lets_costs(WEB, paper, 4, "first"), False)
        self.assertIs(lets_costs(WEB, paper, near=1, far=11), False)
        for near, far in ((0, 10), (1, 9)):
            self.assertIs(lets_costs(WEB, dearest(WEB, 4, "last", near, far)[3]), False)

    def test_numbers_just_enough(self):
        for row, pairs in enumerate(PAPER):
            for at, (lay, number) in enumerate(pairs):
                self.lets(self.with_row(row, pairs[:at] + [(lay, number - 1)] + pairs[at + 1:]), False)
                # Row 1 asks for room 1 at hand or for room 2: its number has some to spare for the first one alone.
                spare = row == 0 or (row, lay) == (2, ONE)
                self.lets(self.with_row(row, pairs[:at] + [(lay, number + 1)] + pairs[at + 1:]), spare)
        greater = [[(lay, number + 5) for lay, number in pairs] for pairs in PAPER]
        self.lets(greater, True)
        self.assertEqual(told_cost(greater), 25)
        self.lets([[(lay, 10 ** 59) for lay, _ in pairs] for pairs in PAPER], False)
        self.lets([[(lay, 10 ** 59 - row * 10) for lay, _ in pairs] for row, pairs in enumerate(PAPER)], True)

    def test_a_row_without_tos(self):
        web = [((4,), ())]
        four = ((4,), ())
        self.lets([[(NONE, 10), (four, 1)]], True, web)
        self.lets([[(NONE, 9), (four, 1)]], False, web)
        self.lets([[(NONE, 10), (four, 0)]], False, web)
        self.lets([[(NONE, 3), (four, 7)]], True, web, 1, "first", 7, 3)
        self.lets([[(NONE, 0), (four, 0)]], True, web, 1, "tree", 0, 0)
        self.lets([[(NONE, 10 ** 9), (four, 10 ** 9)]], True, web, 1, "last", 10 ** 9, 10 ** 9)
        self.lets([[(NONE, 10 ** 9), (four, 10 ** 9 - 1)]], False, web, 1, "last", 10 ** 9, 10 ** 9)

    def test_rows_to_which_no_run_comes(self):
        # What stands at row 3 must be led on to itself: no number is enough there, but where asks cost nothing.
        self.lets(self.with_row(3, [(TWO, 10 ** 50)]), False)
        self.lets(self.with_row(3, [(TWO, 0)]), False)
        free = [[(lay, 0) for lay, _ in pairs] for pairs in PAPER]
        self.lets(free, True, None, 1, "last", 0, 0)
        self.lets(free[:3] + [[(TWO, 0)]], True, None, 1, "last", 0, 0)
        self.lets(free[:3] + [[(ONE, 0), (TWO, 0)]], True, None, 1, "last", 0, 0)
        self.lets(free[:3] + [[(ONE, 0)]], False, None, 1, "last", 0, 0)
        self.lets(free[:3] + [[(ONE, 9), (TWO, 0)]], False, None, 1, "last", 0, 10)
        self.lets(free[:2] + [[(TWO, 0), (ONE, 0)], [(ONE, 10), (TWO, 0)]], False, None, 1, "last", 0, 10)
        more = [[(lay, number + 10) for lay, number in pairs] for pairs in PAPER[:2]]
        more += [PAPER[2], [(ONE, 10), (TWO, 0)]]
        self.lets(more, True, None, 1, "last", 0, 10)

    def test_webs_that_are_not_ending(self):
        web = [((1, 2), (0,))]
        for near, far, numbers, must in ((0, 0, (0, 0, 0), True), (0, 0, (5, 5, 5), True), (0, 0, (5, 5, 4), False),
                                         (0, 1, (1, 1, 1), False), (1, 0, (1, 1, 1), False)):
            self.lets([list(zip((NONE, ONE, TWO), numbers))], must, web, 1, "last", near, far)
        one = [((1,), (0,))]
        self.lets([[(NONE, 10), (ONE, 0)]], True, one, 1, "last", 0, 10)
        self.lets([[(NONE, 9), (ONE, 0)]], False, one, 1, "last", 0, 10)
        self.lets([[(NONE, 10), (ONE, 0)]], False, one, 1, "last", 1, 10)
        self.assertRaises(Endless, dearest, one, 1, "last", 0, 10)

    def test_lays(self):
        for row in range(3):
            for at, (lay, number) in enumerate(PAPER[row]):
                self.lets(self.with_row(row, PAPER[row][:at] + PAPER[row][at + 1:]), False)
                for other in (number, number + 1):
                    self.lets(self.with_row(row, PAPER[row] + [(lay, other)]), False)
        self.lets(self.with_row(0, [PAPER[0][0], PAPER[0][0], PAPER[0][2]]), False)
        self.lets(self.with_row(2, PAPER[2] + [(NONE, 0)]), True)
        for lay in [((3,), ()), ((1, -1), ()), ((1,), (0,)), (1,), ((True,), ()), ([1], ()), ((1,), []), [(1,), ()],
                    ((1,),), ((-2,), ()), (Angry(), ()), ((Angry(),), ()), ((1,), Angry()), *odd_things(),
                    *odd_lists()]:
            for row in range(4):
                self.lets(self.with_row(row, [(lay, 99)] + PAPER[row]), False)
            self.lets(self.with_row(0, [(lay, 99)] + PAPER[0][1:]), False)

    def test_numbers(self):
        for number in [-1, -10 ** 9, "20", (20,), [20], *odd_things(), *odd_lists()]:
            for row in range(3):
                self.lets(self.with_row(row, PAPER[row][:-1] + [(PAPER[row][-1][0], number)]), False)
        free = [[(lay, 0) for lay, _ in pairs] for pairs in PAPER]
        for number in (-1, False, None):
            for row in range(3):
                paper = free[:row] + [free[row][:-1] + [(free[row][-1][0], number)]] + free[row + 1:]
                self.lets(paper, False, None, 1, "last", 0, 0)
        self.lets([[(NONE, True), (ONE, 1)]], False, [((1,), ())], 1, "last", 1, 1)

    def test_forms(self):
        for pair in [(TWO,), (TWO, 0, 0), [TWO, 0], (0, TWO), {TWO: 0}, TWO, *odd_things(), *odd_lists()]:
            self.lets(self.with_row(2, PAPER[2][:1] + [pair]), False)
            self.lets(self.with_row(3, [pair]), False)
        for thing in [PAPER[:3], PAPER + [[]], tuple(PAPER), [], [PAPER], {0: PAPER}, *odd_things(), *odd_lists()]:
            self.lets(thing, False)
        for row in range(4):
            for one in [tuple(PAPER[row]), set(PAPER[row]), dict(PAPER[row]), *odd_things()]:
                self.lets(self.with_row(row, one), False)

    def test_no_run_costs_more(self):
        chance = random.Random(42)
        for _ in range(40):
            web = ending_web(chance, 6, range(1, 4))
            way, size = chance.choice(WAYS), chance.choice((1, 2))
            near, far = chance.choice(((1, 10), (7, 2), (0, 0), (0, 5)))
            paper = dearest(web, size, way, near, far)[3]
            for _ in range(6):
                changed = [[(lay, number + chance.choice((0, 0, 0, 0, 1, -1))) for lay, number in pairs]
                           for pairs in paper]
                if all(number >= 0 for pairs in changed for _, number in pairs):
                    before = copy.deepcopy(changed)
                    must = is_paper(web, changed, size, way, near, far)
                    self.assertIs(lets_costs(web, changed, size, way, near, far), must)
                    self.assertEqual(changed, before)
                    for run in all_runs(web) if must else []:
                        costs = [cost_of(run, lay, way, near, far) for lay in lays_of_web(web, size, way)]
                        self.assertLessEqual(max(costs), told_cost(changed))

    def test_by_chance(self):
        chance = random.Random(43)
        found = {True: 0, False: 0}
        for web in some_webs(chance, 40) + [ending_web(chance, 6, range(3)) for _ in range(40)]:
            way, size = chance.choice(WAYS), chance.choice((1, 2))
            near, far = chance.choice(((1, 10), (3, 2), (0, 0), (0, 1)))
            for _ in range(4):
                top = chance.choice((0, far * len(web), 40 * len(web)))
                paper = [[(lay, max(0, top - row * chance.choice((0, 10, 40)))) for lay in lays]
                         for row, lays in enumerate(stands(web, size, way))]
                must = is_paper(web, paper, size, way, near, far)
                self.assertIs(lets_costs(web, paper, size, way, near, far), must, (web, paper, size, way, near, far))
                found[must] += 1
        self.assertGreater(min(found.values()), 40)

    def test_a_run_that_costs_it(self):
        cost, lay, run, paper = dearest(WEB, 1)
        self.assertEqual((cost, told_cost(paper)), (20, 20))
        self.assertEqual(cost_of(run, lay, "last", 1, 10), 20)

    def test_told_cost_changes_nothing(self):
        paper = copy.deepcopy(PAPER)
        self.assertEqual((told_cost(paper), told_cost(paper)), (20, 20))
        self.assertEqual(paper, PAPER)
        self.assertIs(lets_costs(WEB, paper, 1), True)
        self.assertEqual(paper, PAPER)


class TestRefused(unittest.TestCase):

    def askings(self, web, size, way, near, far):
        return [lambda: lets_costs(web, Angry(), size, way, near, far), lambda: dearest(web, size, way, near, far),
                lambda: dearest(far=far, near=near, way=way, size=size, web=web)]

    def refused(self, web, size, way, near, far, error, part=None):
        for asking in self.askings(web, size, way, near, far):
            with self.subTest(shown((size, way, near, far))), self.assertRaises(error) as caught:
                asking()
            self.assertIsInstance(caught.exception, HandError)
            if part is not None:
                self.assertEqual(caught.exception.part, part)

    def test_no_web(self):
        for thing in [[], tuple(WEB), [None], *odd_things(), *odd_lists()]:
            self.refused(thing, 1, "last", 1, 10, NoWeb)
            self.refused(thing, Angry(), Angry(), Angry(), Angry(), NoWeb)
            self.assertRaises(NoWeb, is_ending, thing)

    def test_no_shelf(self):
        for web in (WEB, GREAT, [((0,), (0,))]):
            for way in [0, "Last", ["last"], ("last",), *odd_things(), *odd_lists()]:
                if not isinstance(way, str) or way not in WAYS:
                    self.refused(web, Angry(), way, Angry(), Angry(), NoShelf, "way")
                    self.refused(web, 2, way, 1, 10, NoShelf, "way")
            for way in WAYS:
                for size in [0, 9, -1, "4", (4,), [4], *odd_things(), *odd_lists()]:
                    self.refused(web, size, way, Angry(), Angry(), NoShelf, "size")
            self.refused(web, 3, "tree", 1, 10, NoShelf, "size")

    def test_too_many(self):
        few, many = line([range(5)] * 39), line([range(5)] * 40)
        self.assertIs(lets_costs(few, None), False)
        self.refused(many, 4, "last", 1, 10, TooMany)
        self.refused(many, 4, "first", Angry(), Angry(), TooMany)
        # Ahead of Endless, which lets_costs never tells.
        self.refused(many[:39] + [((), (0,))], 4, "last", Angry(), Angry(), TooMany)
        self.refused(GREAT, 8, "tree", -1, -1, TooMany)

    def test_no_cost(self):
        for one in [-1, 10 ** 9 + 1, 10 ** 50, "1", (1,), [1], *odd_things(), *odd_lists()]:
            self.refused(WEB, 1, "last", one, 10, NoCost)
            self.refused(WEB, 1, "tree", 1, one, NoCost)
            self.refused(WEB, 1, "first", one, one, NoCost)
            self.refused(WEB, 1, "first", one, Angry(), NoCost)
        for near, far in ((0, 0), (10 ** 9, 0), (0, 10 ** 9), (10 ** 9, 10 ** 9)):
            self.assertIs(lets_costs(WEB, None, 1, "last", near, far), False)
            self.assertEqual(len(dearest(WEB, 1, "last", near, far)), 4)

    def test_near_ahead_of_far(self):
        def words(near, far):
            with self.assertRaises(NoCost) as caught:
                lets_costs(WEB, None, 1, "last", near, far)
            return str(caught.exception)
        self.assertEqual(words(-1, -1), words(-1, 10))
        self.assertEqual(words(None, Angry()), words(-1, 10))
        self.assertNotEqual(words(1, -1), words(-1, 10))

    def test_endless(self):
        for web in WEBS:
            if not ends(web):
                for near, far in ((1, 10), (-1, 10), (Angry(), Angry()), (1, None)):
                    with self.assertRaises(Endless) as caught:
                        dearest(web, 1, "last", near, far)
                    self.assertIsInstance(caught.exception, HandError)
                self.assertIs(lets_costs(web, None, 1), False)
                self.assertRaises(NoCost, lets_costs, web, None, 1, "last", 1, None)


if __name__ == "__main__":
    unittest.main()
