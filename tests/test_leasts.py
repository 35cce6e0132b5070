"""Points [13] and [14]: since-sets and tables of least sets."""

import copy
import random
import unittest

from surehand.errors import HandError, NoRoom, NoWeb
from surehand.leasts import least_sets, lets_least
from tests.helper import (Angry, chance_web, odd_lists, odd_things, rooms_of_web, shown, since_sets, some_webs,
                          told_leasts)

# Row 1 leads to itself and back to row 0; no run comes to row 3.
WEB = [((1,), (1,)), ((2, 3), (0, 1, 2)), ((1,), ()), ((4,), (1, 3))]


def is_closed(web, room, table):
    """Whether a list of lists of sets is a table of least sets, word by word as the point tells it."""
    if () not in table[0]:
        return False
    for (rooms, tos), sets in zip(web, table):
        for one in sets:
            for asked in rooms or (None,):
                come = set() if asked == room else set(one) | ({asked} - {None})
                if not all(any(set(other) <= come for other in table[to]) for to in tos):
                    return False
    return True


def chance_table(chance, web, room):
    """A list of lists of sets by chance: the least one with some taken away, put in or made other."""
    others = [one for one in rooms_of_web(web) if one != room]
    table = least_sets(web, room)
    for _ in range(chance.randint(1, 3)):
        row = chance.randrange(len(web))
        sets = table[row]
        if sets and chance.random() < 0.5:
            sets.remove(chance.choice(sets))
        one = tuple(sorted(chance.sample(others, chance.randint(0, len(others)))))
        if one not in sets and chance.random() < 0.7:
            sets.insert(chance.randint(0, len(sets)), one)
    return table


class TestLeastSets(unittest.TestCase):

    def test_by_hand(self):
        self.assertEqual(least_sets(WEB, 1), [[()], [()], [(2,), (3,)], []])
        self.assertEqual(least_sets(WEB, 2), [[()], [()], [()], []])
        self.assertEqual(least_sets(WEB, 4), [[()], [(1,)], [(1, 2), (1, 3)], []])
        self.assertEqual(least_sets(WEB, 77), least_sets(WEB, 4))
        self.assertEqual(least_sets(room=5, web=[((), ())]), [[()]])
        self.assertEqual(least_sets([((), (1,)), ((), ())], 5), [[()], [()]])
        self.assertEqual(least_sets([((5,), (0,))], 5), [[()]])
        self.assertEqual(least_sets([((), ()), ((5,), (0, 1))], 5), [[()], []])

    def test_sorted_by_how_many_then_by_rooms(self):
        web = [((), (1, 3)), ((1, 9), (2,)), ((2, 10), (5,)), ((0, 3, 4), (5,)), ((7,), (5,)), ((7,), ())]
        self.assertEqual(least_sets(web, 7)[5], [(0,), (3,), (4,), (1, 2), (1, 10), (2, 9), (9, 10)])

    def test_against_all_runs(self):
        chance = random.Random(13)
        for web in some_webs(chance, 150) + [chance_web(chance, 12, range(40, 47), 3) for _ in range(20)]:
            before = copy.deepcopy(web)
            for room in rooms_of_web(web) + [98]:
                table = least_sets(web, room)
                self.assertEqual(table, told_leasts(web, room), (web, room))
                self.assertIs(lets_least(web, room, table), True)
                self.assertEqual(table, told_leasts(web, room))
            self.assertEqual(web, before)

    def test_great_webs(self):
        rows = 80
        chain = [((row % 12,), (row + 1,)) for row in range(rows - 1)] + [((), ())]
        table = least_sets(chain, 50)
        self.assertEqual([len(sets[0]) for sets in table], list(range(12)) + [12] * 68)
        pairs = [((2 * row, 2 * row + 1), (row + 1,)) for row in range(6)] + [((), ())]
        self.assertEqual(len(least_sets(pairs, 50)[6]), 64)
        dense = [(tuple(range(row % 7, row % 7 + 6)), tuple(range(rows))) for row in range(rows)]
        for room in (0, 6, 11):
            self.assertEqual(least_sets(dense, room), [[()]] * rows)
        table = [[()]] + [[(0,), (1,), (2,), (3,), (4,), (5,)]] * (rows - 1)
        self.assertEqual(least_sets(dense, 50), table)
        self.assertIs(lets_least(dense, 50, table), True)

    def test_what_is_told_is_the_askers_own(self):
        web = [((1, 2), (0, 1)), ((1,), (0, 1))]
        told = least_sets(web, 1)
        must = copy.deepcopy(told)
        told[0].append("x")
        told[1].clear()
        self.assertEqual(least_sets(web, 1), must)
        told.pop()
        web[0] = ((), ())
        self.assertEqual(told, [[(), "x"]])

    def test_refusals(self):
        for thing in [[], tuple(WEB), [None], *odd_things(), *odd_lists()]:
            for room in (1, None, Angry()):
                with self.subTest(shown(thing)):
                    self.assertRaises(NoWeb, least_sets, thing, room)
                    self.assertRaises(NoWeb, lets_least, thing, room, Angry())
        for room in [-1, 100, 10 ** 50, (1,), [1], *odd_things(), *odd_lists()]:
            for asking in (lambda: least_sets(WEB, room), lambda: lets_least(WEB, room, least_sets(WEB, 1)),
                           lambda: lets_least(WEB, room, Angry())):
                with self.subTest(shown(room)), self.assertRaises(NoRoom) as caught:
                    asking()
                self.assertIs(caught.exception.room, room)
                self.assertNotIsInstance(caught.exception, HandError)
        with self.assertRaises(NoWeb) as caught:
            least_sets(WEB + [((), (7,))], 1)
        self.assertEqual(caught.exception.row, 4)


class TestLetsLeast(unittest.TestCase):

    def lets(self, table, must, web=None, room=1):
        with self.subTest(shown(table)):
            self.assertIs(lets_least(WEB if web is None else web, room, table), must)

    def test_let_by(self):
        self.lets([[()], [()], [(2,), (3,)], []], True)
        self.lets([[()], [()], [(3,), (2,)], []], True)
        self.lets([[()], [()], [()], []], True)
        self.lets([[()], [()], [()], [()]], True)
        self.lets([[()], [()], [(2,), (3,)], [(2, 3)]], True)
        self.lets([[()], [(), (2,)], [(2,), (3,)], []], True)
        self.lets([[(4,), (), (2, 3)], [()], [(2,), (2, 3), (3,)], [(4,), (3,)]], True)
        self.assertIs(lets_least(thing=[[()], [()], [()], []], room=1, web=WEB), True)

    def test_not_closed(self):
        self.lets([[], [], [], []], False)
        self.lets([[(2,)], [()], [()], []], False)
        self.lets([[()], [], [()], []], False)
        self.lets([[()], [(2,)], [()], []], False)
        self.lets([[()], [()], [(2,)], []], False)
        self.lets([[()], [()], [(2, 3)], []], False)
        self.lets([[()], [()], [(4,)], []], False)
        # No run comes to row 3, but what it has must be led on nonetheless.
        web = [((1,), ()), ((2,), (2,)), ((1,), ())]
        self.lets([[()], [], []], True, web)
        self.lets([[()], [()], [(2,)]], True, web)
        self.lets([[()], [()], []], False, web)
        self.lets([[()], [], [(2,)]], True, web)
        self.lets([[()], [(2,)], [()]], True, web)
        self.lets([[()], [(2,)], [(2,)]], True, web)

    def test_a_row_that_leads_to_itself(self):
        web = [((2,), (0,))]
        self.lets([[()]], True, web)
        self.lets([[(), (2,)]], True, web)
        self.lets([[(2,)]], False, web)
        self.lets([[()]], True, [((), (0,))])
        self.lets([[()]], True, [((1,), (0,))])

    def test_sets(self):
        good = [[()], [()], [(2,), (3,)], []]
        for one in [(1,), (1, 2), (5,), (2, 5), (3, 2), (2, 2), (-1,), (100,), (True,), (2, True), ("2",), "2", [2], [],
                    {2: 3}, ((2,),), (None,), 2, (Angry(),), (2, Angry()), (2, 3, 4, 5), (2,) * 99, (10 ** 50,),
                    *odd_things(), *odd_lists()]:
            for row in range(4):
                for at in (0, len(good[row])):
                    table = copy.deepcopy(good)
                    table[row].insert(at, one)
                    self.lets(table, False)
        zeros = [((0, 1), (0,))]
        self.lets([[(), (0,)]], True, zeros)
        self.lets([[(), (False,)]], False, zeros)
        self.lets([[(), (True,)]], False, zeros, 0)

    def test_a_set_twice(self):
        self.lets([[(), ()], [()], [()], []], False)
        self.lets([[()], [()], [(2,), (3,), (2,)], []], False)
        self.lets([[()], [()], [()], [(2,), (2,)]], False)

    def test_lists(self):
        good = [[()], [()], [(2,), (3,)], []]
        self.lets(good[:3], False)
        self.lets(good + [[]], False)
        self.lets([], False)
        self.lets([good], False)
        self.lets(tuple(good), False)
        for row in range(4):
            for one in [tuple(good[row]), None, {}, {(): 1}, set(), "", 0, Angry(), *odd_things()]:
                self.lets(good[:row] + [one] + good[row + 1:], False)
        for thing in [0, 4, *odd_things(), *odd_lists()]:
            self.lets(thing, False)
        self.lets([Angry()] * 4, False)
        self.lets(least_sets(WEB, 4), False)
        self.lets([[None], [None], [()], []], False)

    def test_by_chance(self):
        chance = random.Random(14)
        counts = {True: 0, False: 0}
        for web in some_webs(chance, 60):
            for room in rooms_of_web(web) + [98]:
                found = since_sets(web, room)
                for _ in range(6):
                    table = chance_table(chance, web, room)
                    before = copy.deepcopy(table)
                    must = is_closed(web, room, table)
                    self.assertIs(lets_least(web, room, table), must, (web, room, table))
                    self.assertEqual(table, before)
                    counts[must] += 1
                    if must:
                        self.check_is_so(found, table)
        self.assertGreater(min(counts.values()), 100)

    def check_is_so(self, found, table):
        """Each since-set of a run has one of its row's list within it."""
        for sinces, sets in zip(found, table):
            for since, _ in sinces:
                self.assertTrue(any(set(one) <= since for one in sets))


if __name__ == "__main__":
    unittest.main()
