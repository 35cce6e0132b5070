"""Point [18]: ages from above and below."""

import copy
import random
import unittest

from surehand.ages import ages, lets_ages
from surehand.errors import NoShelf, NoWeb
from surehand.shelves import Shelf
from surehand.webs import met_rows
from tests.helper import (Angry, chance_run, chance_web, odd_lists, odd_things, rooms_of_web, shown, some_webs,
                          told_stands)

# Its rooms are 1, 2, 3; row 3 leads to itself, and no run comes to row 4.
WEB = [((1,), (1, 2)), ((2,), (3,)), ((1, 3), (3,)), ((), (3,)), ((2,), (3, 4))]
AGES = [([3, 3, 3], [0, 0, 0]), ([0, 3, 3], [0, 1, 1]), ([0, 3, 3], [0, 1, 1]), ([1, 3, 3], [0, 0, 0]), None]


def asked(aboves, belows, room, size):
    """The ages, two dicts, behind an ask."""
    ups, downs = dict(aboves), dict(belows)
    for other in aboves:
        if aboves[other] < aboves[room]:
            ups[other] = aboves[other] + 1
        if belows[other] <= belows[room]:
            downs[other] = min(belows[other] + 1, size)
    ups[room] = downs[room] = 0
    return ups, downs


def joined(pairs, rooms):
    """The greatest aboves and the least belows of several pairs of dicts."""
    return ({room: max(ups[room] for ups, _ in pairs) for room in rooms},
            {room: min(downs[room] for _, downs in pairs) for room in rooms})


def told_ages(web, size):
    """What `ages` must tell, reckoned in another manner: all rows at once from nothing on, until nothing changes."""
    rooms = rooms_of_web(web)
    first = ({room: size for room in rooms}, {room: 0 for room in rooms})
    now = [None] * len(web)
    while True:
        come = [[] for _ in web]
        come[0].append(first)
        for (asks, tos), pair in zip(web, now):
            if pair is not None:
                behind = joined([asked(*pair, room, size) for room in asks], rooms) if asks else pair
                for to in tos:
                    come[to].append(behind)
        news = [joined(pairs, rooms) if pairs else None for pairs in come]
        if news == now:
            return [None if pair is None else ([pair[0][room] for room in rooms], [pair[1][room] for room in rooms])
                    for pair in now]
        now = news


def holds(web, table, size):
    """Whether ages of the right form hold, word by word as the point tells it."""
    rooms = rooms_of_web(web)
    if table[0] != ([size] * len(rooms), [0] * len(rooms)):
        return False
    for (asks, tos), pair in zip(web, table):
        if pair is None:
            continue
        ups, downs = (dict(zip(rooms, ages)) for ages in pair)
        ups, downs = joined([asked(ups, downs, room, size) for room in asks], rooms) if asks else (ups, downs)
        for to in tos:
            if table[to] is None:
                return False
            for room, above, below in zip(rooms, *table[to]):
                if ups[room] > above or downs[room] < below:
                    return False
    return True


class AgesCase(unittest.TestCase):

    def check_runs(self, web, table, size, chance):
        """The ages are true of runs by chance, from whatever lay first."""
        rooms = rooms_of_web(web)
        for _ in range(5):
            shelf = Shelf(size, "last", tuple(chance.sample(rooms + [50, 51, 52] + [-1] * size, size)))
            for row, room in chance_run(chance, web, 15):
                self.check_lay(shelf.lay()[0], rooms, table[row], size)
                if room is not None:
                    shelf.ask(room)

    def check_lay(self, slots, rooms, pair, size):
        for room, above, below in zip(rooms, *pair):
            place = slots.index(room) if room in slots else size
            self.assertLessEqual(below, place)
            if above < size:
                self.assertLessEqual(place, above)


class TestAges(AgesCase):

    def test_by_hand(self):
        self.assertEqual(ages(WEB, 3), AGES)
        self.assertEqual(ages(size=3, web=WEB), AGES)
        self.assertEqual(ages(WEB), ages(WEB, 4))
        self.assertEqual(ages([((5,), (1,)), ((6,), (2,)), ((7,), (3,)), ((), ())], 2),
                         [([2, 2, 2], [0, 0, 0]), ([0, 2, 2], [0, 1, 1]), ([1, 0, 2], [1, 0, 2]),
                          ([2, 1, 0], [2, 1, 0])])
        self.assertEqual(ages([((5,), (1,)), ((5,), (0, 1))], 8), [([8], [0]), ([0], [0])])

    def test_size_1(self):
        self.assertEqual(ages([((5,), (1,)), ((6,), (2,)), ((), ())], 1),
                         [([1, 1], [0, 0]), ([0, 1], [0, 1]), ([1, 0], [1, 0])])

    def test_a_web_without_rooms(self):
        self.assertEqual(ages([((), (0,)), ((), ())]), [([], []), None])
        self.assertIs(lets_ages([((), (0,)), ((), ())], [([], []), None]), True)
        self.assertIs(lets_ages([((), (0,)), ((), ())], [([], []), ([], [])]), True)
        self.assertIs(lets_ages([((), (0,)), ((), ())], [None, None]), False)
        self.assertIs(lets_ages([((), (1,)), ((), ())], [([], []), None]), False)

    def test_against_another_reckoning(self):
        chance = random.Random(21)
        webs = some_webs(chance, 100) + [chance_web(chance, 25, range(30, 42), 4) for _ in range(10)]
        for web in webs:
            before = copy.deepcopy(web)
            rooms = rooms_of_web(web)
            for size in range(1, 9):
                table = ages(web, size)
                self.assertEqual(table, told_ages(web, size), (web, size))
                self.assertEqual([row for row, pair in enumerate(table) if pair is not None], met_rows(web))
                self.assertEqual(table[0], ([size] * len(rooms), [0] * len(rooms)))
                self.assertIs(lets_ages(web, table, size), True)
                self.assertTrue(all(isinstance(pair, tuple) for pair in table if pair is not None))
                self.check_runs(web, table, size, chance)
            self.assertEqual(web, before)

    def test_true_of_all_lays(self):
        chance = random.Random(22)
        for web in some_webs(chance, 30):
            rooms = rooms_of_web(web)
            if len(rooms) < 5:
                for size in (1, 2, 3, 4):
                    for pair, lays in zip(ages(web, size), told_stands(web, size, "last")):
                        for slots, _ in lays:
                            self.check_lay(slots, rooms, pair, size)

    def test_the_greatest_web(self):
        web = [(tuple(range(row % 7, row % 7 + 6)), tuple(range(80))) for row in range(80)]
        table = ages(web, 8)
        self.assertEqual(table, told_ages(web, 8))
        self.assertIs(lets_ages(web, table, 8), True)
        ring = [((row % 12,), ((row + 1) % 80,)) for row in range(80)]
        self.assertEqual(ages(ring, 8), told_ages(ring, 8))

    def test_what_is_told_is_the_askers_own(self):
        web = [((), (1, 2)), ((), (2,)), ((), (0, 1)), ((4,), (0,))]
        told = ages(web, 2)
        for pair in told[:3]:
            self.assertEqual(pair, ([2], [0]))
            pair[0].append(7)
            pair[1][0] = 9
        self.assertEqual(told[:3], [([2, 7], [9])] * 3)
        self.assertEqual(ages(web, 2), [([2], [0])] * 3 + [None])


class TestRefused(unittest.TestCase):

    def test_no_web(self):
        for thing in [[], tuple(WEB), [None], *odd_things(), *odd_lists()]:
            for size in (4, 0, Angry()):
                with self.subTest(shown(thing)):
                    self.assertRaises(NoWeb, ages, thing, size)
                    self.assertRaises(NoWeb, lets_ages, thing, Angry(), size)
        with self.assertRaises(NoWeb) as caught:
            ages(WEB + [None], 0)
        self.assertEqual(caught.exception.row, 5)

    def test_no_size(self):
        for size in [0, 9, -1, 10 ** 50, "4", (4,), [4], *odd_things(), *odd_lists()]:
            for asking in (lambda: ages(WEB, size), lambda: ages(web=WEB, size=size),
                           lambda: lets_ages(WEB, Angry(), size), lambda: lets_ages(WEB, AGES, size=size)):
                with self.subTest(shown(size)), self.assertRaises(NoShelf) as caught:
                    asking()
                self.assertEqual(caught.exception.part, "size")


class TestLetsAges(AgesCase):

    def lets(self, row, pair, must):
        table = AGES[:row] + [pair] + AGES[row + 1:]
        with self.subTest(shown(table)):
            self.assertIs(lets_ages(WEB, table, 3), must)

    def test_let_by(self):
        self.assertIs(lets_ages(WEB, AGES, 3), True)
        self.assertIs(lets_ages(size=3, thing=AGES, web=WEB), True)
        self.assertIs(lets_ages(WEB, AGES, 2), False)
        self.assertIs(lets_ages(WEB, AGES), False)
        self.assertIs(lets_ages(WEB, ages(WEB)), True)
        self.lets(3, ([3, 3, 3], [0, 0, 0]), True)
        self.lets(3, ([2, 3, 3], [0, 0, 0]), True)
        self.lets(2, ([0, 3, 3], [0, 0, 0]), True)
        self.lets(1, ([0, 3, 3], [0, 0, 1]), True)

    def test_too_narrow(self):
        self.lets(3, ([0, 3, 3], [0, 0, 0]), False)
        self.lets(3, ([1, 2, 3], [0, 0, 0]), False)
        self.lets(3, ([1, 3, 3], [0, 1, 0]), False)
        self.lets(3, ([1, 3, 3], [0, 0, 1]), False)
        self.lets(2, ([0, 2, 3], [0, 1, 1]), False)
        self.lets(2, ([0, 3, 3], [0, 2, 1]), False)
        self.lets(1, ([0, 3, 2], [0, 1, 1]), False)
        # What is wider at one row must be wider at its tos, too.
        self.lets(2, ([1, 3, 3], [0, 1, 1]), False)
        self.lets(1, ([1, 3, 3], [0, 1, 1]), False)

    def test_row_0(self):
        for pair in [None, ([3, 3, 2], [0, 0, 0]), ([3, 3, 3], [0, 0, 1]), ([0, 0, 0], [0, 0, 0])]:
            self.lets(0, pair, False)

    def test_where_no_run_comes(self):
        self.lets(4, ([3, 3, 3], [0, 0, 0]), False)
        self.lets(4, ([1, 0, 3], [0, 0, 0]), True)
        self.lets(4, ([0, 0, 0], [3, 0, 3]), True)
        self.lets(4, ([0, 0, 0], [3, 3, 3]), False)
        self.lets(4, ([0, 3, 3], [0, 0, 0]), False)
        table = AGES[:3] + [([3, 3, 3], [0, 0, 0]), ([3, 3, 3], [0, 0, 0])]
        self.assertIs(lets_ages(WEB, table, 3), True)
        table[3] = ([2, 3, 3], [0, 0, 0])
        self.assertIs(lets_ages(WEB, table, 3), False)
        # None allows nothing, also where no run comes.
        web = [((), ()), ((3,), (2,)), ((), ())]
        self.assertIs(lets_ages(web, [([1], [0]), None, None], 1), True)
        self.assertIs(lets_ages(web, [([1], [0]), None, ([0], [0])], 1), True)
        self.assertIs(lets_ages(web, [([1], [0]), ([1], [0]), ([0], [0])], 1), True)
        self.assertIs(lets_ages(web, [([1], [0]), ([1], [0]), None], 1), False)

    def test_none_where_runs_come(self):
        for row in range(4):
            self.lets(row, None, False)

    def test_forms(self):
        for row in range(5):
            ups, downs = AGES[row] or ([0, 0, 0], [3, 0, 3])
            self.lets(row, (list(ups), list(downs)), True)
            for pair in [[ups, downs], (ups,), (ups, downs, downs), (tuple(ups), downs), (ups, tuple(downs)),
                         (ups[:2], downs), (ups, downs[:2]), (ups + [3], downs), (ups, downs + [0]), ups, (None, downs),
                         (ups, None), (ups, {}), (ups[:2] + [4], downs), (ups, downs[:2] + [-1]),
                         (ups, [False] + downs[1:]), ([True] + ups[1:], downs), (ups[:2] + ["3"], downs),
                         (ups[:2] + [None], downs), (ups, downs[:2] + [Angry()]), (Angry(), Angry()), (ups, downs[0]),
                         *odd_things()[1:], *odd_lists()]:
                self.lets(row, pair, False)
        for thing in [tuple(AGES), AGES[:4], AGES + [None], [], [AGES], 0, {0: AGES}, *odd_things(), *odd_lists()]:
            with self.subTest(shown(thing)):
                self.assertIs(lets_ages(WEB, thing, 3), False)

    def test_by_chance(self):
        chance = random.Random(23)
        counts = {True: 0, False: 0}
        for web in some_webs(chance, 80):
            size = chance.randint(1, 4)
            for _ in range(8):
                table = self.changed(chance, web, size)
                before = copy.deepcopy(table)
                must = holds(web, table, size)
                self.assertIs(lets_ages(web, table, size), must, (web, table, size))
                self.assertEqual(table, before)
                counts[must] += 1
                if must:
                    self.check_runs(web, table, size, chance)
        self.assertGreater(min(counts.values()), 50)

    def changed(self, chance, web, size):
        """The ages with some of them changed."""
        table = ages(web, size)
        many = len(rooms_of_web(web))
        for _ in range(chance.randint(1, 2)):
            row = chance.randrange(len(web))
            if table[row] is None:
                table[row] = ([chance.randint(0, size) for _ in range(many)],
                              [chance.randint(0, size) for _ in range(many)])
            elif chance.random() < 0.1:
                table[row] = None
            elif many and row:
                chance.choice(table[row])[chance.randrange(many)] = chance.randint(0, size)
        return table


if __name__ == "__main__":
    unittest.main()
