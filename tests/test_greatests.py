"""Points [13] and [15]: since-sets and tables of greatest sets."""

import copy
import random
import unittest

from surehand.errors import HandError, NoRoom, NoWeb
from surehand.greatests import greatest_sets, lets_greatest
from tests.helper import (Angry, chance_web, odd_lists, odd_things, rooms_of_web, shown, since_sets, some_webs,
                          told_greatests)

# Row 1 leads to itself and back to row 0; no run comes to row 3.
WEB = [((1,), (1,)), ((2, 3), (0, 1, 2)), ((1,), ()), ((4,), (1, 3))]
# No run is new to room 1 at the rows 1 to 3, and none comes to row 4.
CHAIN = [((1,), (1,)), ((2, 3), (2,)), ((), (3,)), ((1, 4), ()), ((3,), (2,))]


def covers(other, come):
    """Whether a thing in a table covers what comes, None or a set."""
    return other is None or (come is not None and set(come) <= set(other))


def is_closed(web, room, table):
    """Whether a list of lists of sets and None is a table of greatest sets, word by word as the point tells it."""
    if None not in table[0]:
        return False
    for (rooms, tos), things in zip(web, table):
        for one in things:
            for asked in rooms or (None,):
                if asked == room:
                    come = ()
                else:
                    come = None if one is None else set(one) | ({asked} - {None})
                if not all(any(covers(other, come) for other in table[to]) for to in tos):
                    return False
    return True


def chance_table(chance, web, room):
    """A list of lists of sets and None by chance: the one told with some taken away, put in or made other."""
    others = [one for one in rooms_of_web(web) if one != room]
    table = greatest_sets(web, room)
    for _ in range(chance.randint(1, 3)):
        things = table[chance.randrange(len(web))]
        if things and chance.random() < 0.5:
            things.remove(chance.choice(things))
        one = tuple(sorted(chance.sample(others, chance.randint(0, len(others)))))
        one = None if chance.random() < 0.3 else one
        if one not in things and chance.random() < 0.7:
            things.insert(chance.randint(0, len(things)), one)
    return table


class TestGreatestSets(unittest.TestCase):

    def test_by_hand(self):
        self.assertEqual(greatest_sets(WEB, 1), [[None], [(2, 3)], [(2, 3)], []])
        self.assertEqual(greatest_sets(WEB, 2), [[None], [None], [None], []])
        self.assertEqual(greatest_sets(WEB, 77), [[None], [None], [None], []])
        self.assertEqual(greatest_sets(CHAIN, 1), [[None], [()], [(2,), (3,)], [(2,), (3,)], []])
        self.assertEqual(greatest_sets(room=5, web=[((), ())]), [[None]])
        self.assertEqual(greatest_sets([((5,), (0,))], 5), [[None]])
        self.assertEqual(greatest_sets([((5,), (1,)), ((5, 6), (1,))], 5), [[None], [(6,)]])
        self.assertEqual(greatest_sets([((5, 6), (1,)), ((5,), (2,)), ((5,), ())], 5), [[None], [None], [()]])
        self.assertEqual(greatest_sets([((), ()), ((5,), (0, 1))], 5), [[None], []])

    def test_sorted_by_how_many_then_by_rooms(self):
        web = [((7,), (1, 3, 4)), ((1, 9), (2,)), ((2, 10), (5,)), ((0, 3, 4), (5,)), ((5,), (5,)), ((), ())]
        self.assertEqual(greatest_sets(web, 7)[5], [(0,), (3,), (4,), (5,), (1, 2), (1, 10), (2, 9), (9, 10)])

    def test_against_all_runs(self):
        chance = random.Random(15)
        for web in some_webs(chance, 150) + [chance_web(chance, 12, range(40, 47), 3) for _ in range(20)]:
            before = copy.deepcopy(web)
            for room in rooms_of_web(web) + [98]:
                table = greatest_sets(web, room)
                self.assertEqual(table, told_greatests(web, room), (web, room))
                self.assertIs(lets_greatest(web, room, table), True)
                self.assertEqual(table, told_greatests(web, room))
            self.assertEqual(web, before)

    def test_great_webs(self):
        rows = 80
        chain = [((50,), (1,))] + [((row % 11,), (row + 1,)) for row in range(1, rows - 1)] + [((), ())]
        table = greatest_sets(chain, 50)
        self.assertEqual([len(things[0]) for things in table[1:]], list(range(11)) + [11] * 68)
        wide = [((50,), (1,))] + [(tuple(range(row, row + 6)), (row + 1,)) for row in range(1, 6)] + [((), ())]
        self.assertEqual(greatest_sets(wide, 50), told_greatests(wide, 50))
        self.assertGreater(len(greatest_sets(wide, 50)[6]), 100)
        dense = [(tuple(range(row % 7, row % 7 + 6)), tuple(range(rows))) for row in range(rows)]
        for room in (0, 6, 11, 50):
            self.assertEqual(greatest_sets(dense, room), [[None]] * rows)
        first = [((0,), tuple(range(1, rows)))] + [(rooms, tos[1:]) for rooms, tos in dense[1:]]
        self.assertEqual(greatest_sets(first, 0), [[None]] + [[tuple(range(1, 12))]] * (rows - 1))

    def test_what_is_told_is_the_askers_own(self):
        web = list(CHAIN)
        told = greatest_sets(web, 1)
        must = copy.deepcopy(told)
        told[0].append("x")
        told[2].clear()
        told[3].append((2, 3))
        self.assertEqual(greatest_sets(web, 1), must)
        told.pop()
        web[0] = ((), ())
        self.assertEqual(told, [[None, "x"], [()], [], [(2,), (3,), (2, 3)]])

    def test_refusals(self):
        for thing in [[], tuple(WEB), [None], *odd_things(), *odd_lists()]:
            for room in (1, None, Angry()):
                with self.subTest(shown(thing)):
                    self.assertRaises(NoWeb, greatest_sets, thing, room)
                    self.assertRaises(NoWeb, lets_greatest, thing, room, Angry())
        for room in [-1, 100, 10 ** 50, (1,), [1], *odd_things(), *odd_lists()]:
            for asking in (lambda: greatest_sets(WEB, room), lambda: lets_greatest(WEB, room, greatest_sets(WEB, 1)),
                           lambda: lets_greatest(WEB, room, Angry())):
                with self.subTest(shown(room)), self.assertRaises(NoRoom) as caught:
                    asking()
                self.assertIs(caught.exception.room, room)
                self.assertNotIsInstance(caught.exception, HandError)
        with self.assertRaises(NoWeb) as caught:
            greatest_sets(WEB + [((), (7,))], 1)
        self.assertEqual(caught.exception.row, 4)


class TestLetsGreatest(unittest.TestCase):

    def lets(self, table, must, web=None, room=1):
        with self.subTest(shown(table)):
            self.assertIs(lets_greatest(CHAIN if web is None else web, room, table), must)

    def test_let_by(self):
        self.lets([[None], [()], [(2,), (3,)], [(2,), (3,)], []], True)
        self.lets([[None], [()], [(3,), (2,)], [(2, 3)], []], True)
        self.lets([[None], [()], [(2, 3)], [(2, 3, 4)], []], True)
        self.lets([[None], [None], [None], [None], [None]], True)
        self.lets([[None], [()], [None], [None], []], True)
        self.assertIs(lets_greatest(thing=[[None]], room=1, web=[((), ())]), True)

    def test_none_beside_others(self):
        self.lets([[(), None, (2,)], [()], [(2,), (3,)], [(2,), (3,)], []], True)
        self.lets([[None], [()], [(2,), None], [None], []], True)
        self.lets([[None], [()], [None, (2,)], [(), None, (4,)], []], True)
        self.lets([[None], [(), None], [(2,), (3,)], [(2,), (3,)], []], False)
        self.lets([[None], [()], [(2,), (3,), None], [(2,), (3,)], []], False)
        self.lets([[None], [()], [(2,), (3,), None], [(2, 3, 4)], []], False)
        # Of a row with the room among others new comes, and nothing.
        web = [((1, 2), (1,)), ((1,), (2,)), ((), ())]
        self.lets([[None], [None], [()]], True, web)
        self.lets([[None], [()], [()]], False, web)
        self.lets([[None], [(2,)], [()]], False, web)
        self.lets([[None], [None, ()], [()]], True, web)
        self.lets([[None], [None], [(2,)]], True, web)
        self.lets([[None], [None], []], False, web)

    def test_not_closed(self):
        self.lets([[], [], [], [], []], False)
        self.lets([[()], [()], [(2,), (3,)], [(2,), (3,)], []], False)
        self.lets([[(2, 3, 4)], [()], [(2,), (3,)], [(2,), (3,)], []], False)
        self.lets([[None], [], [(2,), (3,)], [(2,), (3,)], []], False)
        self.lets([[None], [()], [(2,)], [(2,), (3,)], []], False)
        self.lets([[None], [()], [(2,), (3,)], [(2,)], []], False)
        self.lets([[None], [()], [(2,), (3,)], [(4,), (2,)], []], False)
        self.lets([[None], [(4,)], [(2,), (3,)], [(2,), (3,)], []], False)
        # No run comes to row 4, but what it has must be led on nonetheless.
        self.lets([[None], [()], [(2,), (3,)], [(2,), (3,)], [()]], True)
        self.lets([[None], [()], [(2,), (3,)], [(2,), (3,)], [(2,)]], False)
        self.lets([[None], [()], [(2, 3)], [(2, 3)], [(2,)]], True)
        self.lets([[None], [()], [(2, 3)], [(2, 3)], [None]], False)

    def test_a_row_that_leads_to_itself(self):
        web = [((2,), (0,))]
        self.lets([[None]], True, web)
        self.lets([[None, ()]], True, web)
        self.lets([[()]], False, web)
        self.lets([[None]], True, [((), (0,))])
        self.lets([[None]], True, [((1,), (0,))])
        web = [((1,), (1,)), ((2,), (1,))]
        self.lets([[None], [(2,)]], True, web)
        self.lets([[None], [()]], False, web)
        self.lets([[None], [(), (2,)]], True, web)

    def test_sets(self):
        good = [[None], [()], [(2,), (3,)], [(2,), (3,)], []]
        for one in [(1,), (1, 2), (5,), (2, 5), (3, 2), (2, 2), (-1,), (100,), (True,), (2, True), ("2",), "2", [2], [],
                    {2: 3}, ((2,),), (None,), (2, None), 2, (Angry(),), (2, Angry()), (2, 3, 4, 5), (2,) * 99,
                    (10 ** 50,), *odd_things()[1:], *odd_lists()]:
            for row in range(5):
                for at in (0, len(good[row])):
                    table = [list(things) for things in good]
                    table[row].insert(at, one)
                    self.lets(table, False)
        zeros = [((0, 1), (0,))]
        self.lets([[None, (0,)]], True, zeros)
        self.lets([[None, (False,)]], False, zeros)
        self.lets([[None, (True,)]], False, zeros, 0)

    def test_a_thing_twice(self):
        self.lets([[None, None], [()], [(2,), (3,)], [(2,), (3,)], []], False)
        self.lets([[None], [(), ()], [(2,), (3,)], [(2,), (3,)], []], False)
        self.lets([[None], [()], [(2,), (3,), (2,)], [(2,), (3,)], []], False)
        self.lets([[None], [()], [(2,), (3,)], [(2,), (3,)], [(), ()]], False)
        self.lets([[None], [()], [None], [None, None], []], False)

    def test_lists(self):
        good = [[None], [()], [(2,), (3,)], [(2,), (3,)], []]
        self.lets(good[:4], False)
        self.lets(good + [[]], False)
        self.lets([], False)
        self.lets([good], False)
        self.lets(tuple(good), False)
        for row in range(5):
            for one in [tuple(good[row]), None, {}, {(): 1}, set(), "", 0, Angry(), *odd_things()]:
                self.lets(good[:row] + [one] + good[row + 1:], False)
        for thing in [0, 5, *odd_things(), *odd_lists()]:
            self.lets(thing, False)
        self.lets([Angry()] * 5, False)

    def test_by_chance(self):
        chance = random.Random(16)
        counts = {True: 0, False: 0}
        for web in some_webs(chance, 60):
            for room in rooms_of_web(web) + [98]:
                found = since_sets(web, room)
                for _ in range(6):
                    table = chance_table(chance, web, room)
                    before = copy.deepcopy(table)
                    must = is_closed(web, room, table)
                    self.assertIs(lets_greatest(web, room, table), must, (web, room, table))
                    self.assertEqual(table, before)
                    counts[must] += 1
                    if must:
                        self.check_is_so(found, table)
        self.assertGreater(min(counts.values()), 100)

    def check_is_so(self, found, table):
        """Each since-set of a run is covered by something of its row's list."""
        for sinces, things in zip(found, table):
            for since, new in sinces:
                self.assertTrue(any(covers(one, None if new else since) for one in things))


if __name__ == "__main__":
    unittest.main()
