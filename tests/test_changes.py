"""Points [24], [25] and [26]: webs changed."""

import copy
import random
import unittest

from surehand.changes import called, joined, ordered, put_ahead, turned_by
from surehand.costs import is_ending
from surehand.dearest import dearest
from surehand.errors import HandError, NoNames, NoRoom, NoRow, NoShelf, NoWeb, TooMany
from surehand.lays import lays_many
from surehand.runs import along, is_run
from surehand.settled import settled
from surehand.shelves import Shelf
from surehand.sure import numbers
from surehand.webs import look_at_web, met_rows, web_rooms
from tests.helper import (Angry, SIZES, WAYS, WEBS, all_asks, all_runs, chance_run, ending_web, ends, how_many_lays,
                          line, lists_of_web, odd_lists, odd_things, rooms_of_web, shown, some_webs, told_stands,
                          word_of)

END = ((), ())
# Row 2 leads to itself; no run comes to row 4.
WEB = [((1,), (1, 2)), ((2, 5), (3,)), ((), (2, 3)), ((1,), ()), ((5,), (0, 4))]
NO_ROWS = [-1, 5, 80, 10 ** 50, "0", (0,), [0]]
NO_ROOMS = [-1, 100, 10 ** 50, "1", (1,), [1]]
NO_WAYS = [0, "Last", "last ", ["last"], ("last",)]


def with_names(web):
    """The rows of a web with their numbers as names: a dict from names to tuples (rooms, names)."""
    return {row: (rooms, list(tos)) for row, (rooms, tos) in enumerate(web)}


def numbered(named, order):
    """A web of named rows, in this order."""
    places = {name: place for place, name in enumerate(order)}
    return [(tuple(sorted(named[name][0])), tuple(sorted(places[to] for to in named[name][1]))) for name in order]


def told_put(web, row, room):
    """What `put_ahead` must tell, reckoned in another manner."""
    named = {name: (rooms, ["new" if to == row else to for to in tos])
             for name, (rooms, tos) in with_names(web).items()}
    named["new"] = ((room,), [row])
    return numbered(named, [*range(row), "new", *range(row, len(web))])


def all_told_words(web, size, way):
    """The words of all asks, a dict, reckoned in another manner."""
    table = told_stands(web, size, way)
    return {(row, room): word_of(table[row], room) for row, room in all_asks(web)}


class ChangeCase(unittest.TestCase):

    def refused(self, error, asking, *told):
        with self.subTest(shown(told)), self.assertRaises(error) as caught:
            asking(*told)
        if not isinstance(caught.exception, NoRoom):
            self.assertIsInstance(caught.exception, HandError)
        return caught.exception

    def own(self, asking, web):
        """What is told is a new list each time, and the asker's own."""
        first = asking()
        must = copy.deepcopy(first)
        before = copy.deepcopy(web)
        first.append(END)
        first[0] = None
        self.assertEqual(asking(), must)
        self.assertEqual(web, before)

    def alike(self, web, other, ask, chance):
        """All asks of both webs have the same numbers and words, and they cost the same."""
        way = chance.choice(WAYS)
        for row, room in all_asks(web):
            self.assertEqual(numbers(web, row, room), numbers(other, *ask(row, room)))
            self.assertEqual(settled(web, row, room, 2, way)[0], settled(other, *ask(row, room), 2, way)[0])
        if is_ending(web):
            self.assertEqual(dearest(web, 2, way)[0], dearest(other, 2, way)[0])


class TestPutAhead(ChangeCase):

    def test_by_hand(self):
        self.assertEqual(put_ahead([END], 0, 7), [((7,), (1,)), END])
        self.assertEqual(put_ahead([((3,), (0,))], 0, 3), [((3,), (1,)), ((3,), (0,))])
        self.assertEqual(put_ahead(WEB, 3, 9), [((1,), (1, 2)), ((2, 5), (3,)), ((), (2, 3)), ((9,), (4,)), ((1,), ()),
                                                ((5,), (0, 5))])
        self.assertEqual(put_ahead(room=9, row=2, web=WEB),
                         [((1,), (1, 2)), ((2, 5), (4,)), ((9,), (3,)), ((), (2, 4)), ((1,), ()), ((5,), (0, 5))])
        self.assertEqual(put_ahead(WEB, 4, 0), WEB[:4] + [((0,), (5,)), ((5,), (0, 4))])
        self.assertEqual(put_ahead(WEB, 0, 99)[:2], [((99,), (1,)), ((1,), (2, 3))])

    def test_against_another_reckoning(self):
        chance = random.Random(61)
        for web in some_webs(chance, 60):
            before = copy.deepcopy(web)
            for row in range(len(web)):
                for room in (*web[row][0][:1], chance.randint(0, 99)):
                    told = put_ahead(web, row, room)
                    self.assertEqual(told, told_put(web, row, room), (web, row, room))
                    self.assertIsNone(look_at_web(told))
            self.assertEqual(web, before)

    def test_every_run_goes_through_it(self):
        chance = random.Random(62)
        for web in some_webs(chance, 30):
            row, room = chance.randrange(len(web)), chance.randint(0, 99)
            told = put_ahead(web, row, room)
            run = chance_run(chance, told, 40)
            elder = [(at - (at > row), one) for at, one in run if at != row]
            self.assertTrue(not elder or is_run(web, elder))
            for (at, one), (to, _) in zip([(None, None)] + run, run):
                self.assertEqual(to == row + 1, at == row)
                self.assertTrue(at != row or one == room)

    def test_how_many_rows(self):
        web = line([()] * 79)
        told = put_ahead(web, 78, 1)
        self.assertEqual((len(told), told[78:]), (80, [((1,), (79,)), END]))
        self.assertIsNone(look_at_web(told))
        for row in (0, 40, 79):
            self.refused(TooMany, put_ahead, told, row, 1)
        dense = [((), tuple(range(79)))] * 79
        self.assertIsNone(look_at_web(put_ahead(dense, 0, 5)))

    def test_how_many_rooms(self):
        twelve = line([(room,) for room in range(12)])
        eleven = twelve[:10] + [((10,), ())]
        for row in range(11):
            self.assertEqual(len(web_rooms(put_ahead(eleven, row, 99))), 12)
            self.assertEqual(len(put_ahead(twelve, row, 11)), 13)
            self.refused(TooMany, put_ahead, twelve, row, 12)
            self.refused(TooMany, put_ahead, twelve, row, 99)

    def test_refused(self):
        for thing in [[], tuple(WEB), [None], *odd_things(), *odd_lists()]:
            self.refused(NoWeb, put_ahead, thing, Angry(), Angry())
        full = line([()] * 80)
        for row in NO_ROWS + odd_things() + odd_lists():
            for room in (1, -1, Angry()):
                self.refused(NoRow, put_ahead, WEB, row, room)
        self.refused(NoRow, put_ahead, full, 80, 1)
        for room in NO_ROOMS + odd_things() + odd_lists():
            for web in (WEB, full):
                self.assertIs(self.refused(NoRoom, put_ahead, web, 2, room).room, room)

    def test_what_is_told_is_the_askers_own(self):
        self.own(lambda: put_ahead(WEB, 2, 9), WEB)


class TestTurnedBy(ChangeCase):

    def check(self, web, row, room, size, way):
        told = turned_by(web, row, room, size, way)
        words, news = all_told_words(web, size, way), all_told_words(told_put(web, row, room), size, way)
        must = [(at, one, word, news[at + (at >= row), one]) for (at, one), word in sorted(words.items())]
        self.assertEqual(told, [turn for turn in must if turn[2] != turn[3]], (web, row, room, size, way))
        return len(told)

    def test_by_hand(self):
        web = [((1,), (1,)), ((2,), (2,)), ((1,), ())]
        self.assertEqual(turned_by(web, 2, 3, 2), [(2, 1, "always", "never")])
        self.assertEqual(turned_by(web, 2, 3, 3), [])
        self.assertEqual(turned_by(web, 2, 1, 1), [(2, 1, "never", "always")])
        self.assertEqual(turned_by(web, 0, 1, 1), [(0, 1, "some", "always")])
        self.assertEqual(turned_by(web, 0, 2, 2), [(1, 2, "some", "always")])
        self.assertEqual(turned_by(way="last", size=2, room=3, row=2, web=web), [(2, 1, "always", "never")])
        five = line([(1,), (2,), (3,), (4,), (1,)])
        self.assertEqual(turned_by(five, 4, 5), [(4, 1, "always", "never")])
        self.assertEqual((turned_by(five, 4, 5, 3), turned_by(five, 4, 5, 5)), ([], []))
        # By `first` room 1 may be left out or not, as what lay there at first has it.
        self.assertEqual(turned_by(five, 4, 5, 4, "first"), [])
        unmet = web + [((2,), (2,))]
        self.assertEqual(turned_by(unmet, 3, 7, 2), [])

    def test_against_another_reckoning(self):
        chance = random.Random(63)
        turned = {way: 0 for way in WAYS}
        for web in some_webs(chance, 50):
            before = copy.deepcopy(web)
            for way in WAYS:
                row, size = chance.randrange(len(web)), chance.choice(SIZES[way][:3])
                room = chance.choice(rooms_of_web(web) + [60])
                if how_many_lays(told_put(web, row, room), size, way) * len(web) <= 2500:
                    turned[way] += self.check(web, row, room, size, way)
            self.assertEqual(web, before)
        self.assertGreater(min(turned.values()), 5)

    def test_each_row_and_each_room(self):
        for row in range(5):
            for room in (1, 2, 5, 8):
                for way in WAYS:
                    self.check(WEB, row, room, 2, way)

    def test_it_is_what_settled_tells(self):
        for way in WAYS:
            for row in range(5):
                new = put_ahead(WEB, row, 1)
                must = [(at, room, settled(WEB, at, room, 2, way)[0], settled(new, at + (at >= row), room, 2, way)[0])
                        for at, room in all_asks(WEB)]
                self.assertEqual(turned_by(WEB, row, 1, 2, way), [one for one in must if one[2] != one[3]])

    def test_how_many(self):
        for rooms, size, way, rows in ((5, 4, "last", 39), (6, 4, "first", 19), (4, 4, "tree", 11)):
            web = line([range(rooms)] + [()] * (rows - 2))
            self.assertLessEqual(lays_many(web, size, way) * rows, 20000)
            self.assertIsInstance(turned_by(web, 0, 0, size, way), list)
            # The web as it is is small enough, but not the one that comes.
            self.refused(TooMany, turned_by, web + [END], 0, 0, size, way)
            self.refused(TooMany, turned_by, web, 0, 99, size, way)
            self.refused(TooMany, turned_by, web + [END] * 2, 0, 0, size, way)
        self.refused(TooMany, turned_by, line([()] * 80), 0, 0, 1)
        self.assertEqual(turned_by(line([()] * 79), 0, 0, 1), [])
        self.refused(TooMany, turned_by, line([(room,) for room in range(12)]), 0, 12, 1)
        self.assertIsInstance(turned_by(line([(room,) for room in range(12)]), 0, 11, 1), list)

    def test_refused_in_order(self):
        full = line([()] * 80)
        for thing in [[], tuple(WEB), [None], *odd_things(), *odd_lists()]:
            self.refused(NoWeb, turned_by, thing, Angry(), Angry(), Angry(), Angry())
        for row in NO_ROWS + odd_things() + odd_lists():
            self.refused(NoRow, turned_by, WEB, row, Angry(), Angry(), Angry())
            self.refused(NoRow, turned_by, WEB, row, 1, 2, "last")
        for room in NO_ROOMS + odd_things() + odd_lists():
            for web in (WEB, full):
                self.assertIs(self.refused(NoRoom, turned_by, web, 2, room, Angry(), Angry()).room, room)
                self.assertIs(self.refused(NoRoom, turned_by, web, 2, room, 2, "last").room, room)
        for web in (WEB, full):
            for way in NO_WAYS + [one for one in odd_things() + odd_lists() if not isinstance(one, str)]:
                self.assertEqual(self.refused(NoShelf, turned_by, web, 2, 1, Angry(), way).part, "way")
                self.assertEqual(self.refused(NoShelf, turned_by, web, 2, 1, 2, way).part, "way")
            for size in [0, 9, -1, "2", (2,), [2], *odd_things(), *odd_lists()]:
                for way in WAYS:
                    self.assertEqual(self.refused(NoShelf, turned_by, web, 2, 1, size, way).part, "size")
            self.assertEqual(self.refused(NoShelf, turned_by, web, 2, 1, 3, "tree").part, "size")

    def test_what_is_told_is_the_askers_own(self):
        web = [((1,), (1,)), ((2,), (2,)), ((1,), ())]
        self.own(lambda: turned_by(web, 2, 3, 2), web)


class TestCalled(ChangeCase):

    def test_by_hand(self):
        self.assertEqual(called(WEB, [(1, 5), (2, 2), (5, 1)]),
                         [((5,), (1, 2)), ((1, 2), (3,)), ((), (2, 3)), ((5,), ()), ((1,), (0, 4))])
        self.assertEqual(called(names=[(5, 0), (1, 99), (2, 50)], web=WEB)[1], ((0, 50), (3,)))
        self.assertEqual(called(WEB, [(1, 1), (2, 2), (5, 5)]), WEB)
        self.assertEqual(called([END], []), [END])

    def test_told_alike(self):
        chance = random.Random(64)
        for web in some_webs(chance, 30) + [ending_web(chance, 6, range(4)) for _ in range(15)]:
            rooms = rooms_of_web(web)
            news = dict(zip(rooms, chance.sample(chance.choice((rooms, range(100))), len(rooms))))
            names = chance.sample(sorted(news.items()), len(rooms))
            before = copy.deepcopy((web, names))
            told = called(web, names)
            self.assertEqual((web, names), before)
            self.assertIsNone(look_at_web(told))
            self.assertEqual([(set(map(news.get, asks)), tos) for asks, tos in web],
                             [(set(asks), tos) for asks, tos in told])
            self.assertEqual(called(told, [(new, room) for room, new in names]), web)
            self.alike(web, told, lambda row, room: (row, news[room]), chance)

    def test_no_names(self):
        good = [(1, 5), (2, 2), (5, 1)]
        for names in [good[:2], good + [(7, 7)], good + [(1, 5)], [], [(1, 5), (1, 2), (5, 1)],
                      [(1, 5), (2, 5), (5, 1)], [(1, 5), (2, 2), (6, 1)], [(1, 5), (2, 2), (5, 100)],
                      [(1, 5), (2, 2), (5, -1)], tuple(good), dict(good), [[1, 5], (2, 2), (5, 1)],
                      [(1, 5), (2, 2), (5, 1, 1)], [(1, 5), (2, 2), (5,)],
                      [(True, 5), (2, 2), (5, 1)], [(1, True), (2, 2), (5, 3)], [(1, 5), (2, 2), (5, False)],
                      [(1, 5), (2, 2), ("5", 1)], [(1, 5), (2, 2), (5, "1")], [(1, 5), (2, 2), (5, None)],
                      [(1, 5), (2, 2), Angry()], [(1, 5), (2, 2), (Angry(), 1)], [(1, 5), (2, 2), (5, Angry())],
                      [Angry()] * 3, [(5, 1), (1, 2), (2, 2)], *odd_things(), *odd_lists()]:
            self.refused(NoNames, called, WEB, names)
        for names in [[(1, 1)], (), None, {}, Angry()]:
            self.refused(NoNames, called, [END], names)
        for thing in [[], tuple(WEB), [None], *odd_things(), *odd_lists()]:
            self.refused(NoWeb, called, thing, Angry())
            self.refused(NoWeb, called, thing, good)

    def test_what_is_told_is_the_askers_own(self):
        self.own(lambda: called(WEB, [(1, 5), (2, 2), (5, 1)]), WEB)


class TestOrdered(ChangeCase):

    def test_by_hand(self):
        self.assertEqual(ordered(WEB, [0, 3, 1, 4, 2]),
                         [((1,), (2, 4)), ((1,), ()), ((2, 5), (1,)), ((5,), (0, 3)), ((), (1, 4))])
        self.assertEqual(ordered(order=[0, 1, 2, 3, 4], web=WEB), WEB)
        self.assertEqual(ordered([END], [0]), [END])

    def test_told_alike(self):
        chance = random.Random(65)
        for web in some_webs(chance, 30) + [ending_web(chance, 6, range(4)) for _ in range(15)]:
            order = [0] + chance.sample(range(1, len(web)), len(web) - 1)
            before = copy.deepcopy((web, order))
            told = ordered(web, order)
            self.assertEqual((web, order), before)
            self.assertIsNone(look_at_web(told))
            self.assertEqual(told, numbered(with_names(web), order))
            contrary = [order.index(row) for row in range(len(web))]
            self.assertEqual(ordered(told, contrary), web)
            self.assertEqual(met_rows(told), sorted(contrary[row] for row in met_rows(web)))
            self.alike(web, told, lambda row, room: (contrary[row], room), chance)

    def test_no_names(self):
        for order in [[1, 0, 2, 3, 4], [4, 3, 2, 1, 0], [0, 1, 2, 3], [0, 1, 2, 3, 4, 5], [0, 1, 2, 3, 3],
                      [0, 1, 2, 3, 5], [0, 1, 2, 3, -1], [0, 0, 1, 2, 3, 4], (0, 1, 2, 3, 4), [False, 1, 2, 3, 4],
                      [0, True, 2, 3, 4], [0, 1, 2, 3, "4"], [0, 1, 2, 3, None], [0, 1, 2, 3, (4,)], [Angry()] * 5,
                      [0, 1, 2, 3, Angry()], [0, 1, 2, 3, [4]], range(5), {0: 0, 1: 1, 2: 2, 3: 3, 4: 4},
                      *odd_things(), *odd_lists()]:
            self.refused(NoNames, ordered, WEB, order)
        for order in [[], [1], [0, 0], [False], None]:
            self.refused(NoNames, ordered, [END], order)
        for thing in [[], tuple(WEB), [None], *odd_things(), *odd_lists()]:
            self.refused(NoWeb, ordered, thing, Angry())
            self.refused(NoWeb, ordered, thing, [0])

    def test_what_is_told_is_the_askers_own(self):
        self.own(lambda: ordered(WEB, [0, 3, 1, 4, 2]), WEB)


class TestJoined(ChangeCase):

    def test_by_hand(self):
        self.assertEqual(joined([END], [END]), [((), (1,)), END])
        self.assertEqual(joined(WEB, [((9,), (0, 1)), END]),
                         WEB[:3] + [((1,), (5,)), ((5,), (0, 4)), ((9,), (5, 6)), END])
        self.assertEqual(joined(other=[((1,), ()), END], web=[((3,), (1, 2)), END, ((4,), ())]),
                         [((3,), (1, 2)), ((), (3,)), ((4,), (3,)), ((1,), ()), END])
        ring = [((1,), (0,))]
        self.assertEqual(joined(ring, ring), [((1,), (0,)), ((1,), (1,))])
        self.assertEqual(joined(WEB, WEB), WEB[:3] + [((1,), (5,)), WEB[4]]
                         + [(rooms, tuple(to + 5 for to in tos)) for rooms, tos in WEB])

    def test_a_run_of_both(self):
        chance = random.Random(66)
        webs = some_webs(chance, 20)
        for web in webs:
            other = chance.choice(webs + [web])
            before = copy.deepcopy((web, other))
            told = joined(web, other)
            self.assertEqual((web, other), before)
            self.assertIsNone(look_at_web(told))
            self.assertEqual(is_ending(told), ends(told))
            both = {head + tail for head in lists_of_web(web, 5) for tail in lists_of_web(other, 5)}
            self.assertEqual(lists_of_web(told, 5), {one for one in both if len(one) <= 5})

    def test_each_run_is_one_behind_the_other(self):
        chance = random.Random(67)
        for _ in range(20):
            web, other = ending_web(chance, 4, range(3)), ending_web(chance, 4, range(3))
            both = [head + [(row + len(web), room) for row, room in tail]
                    for head in all_runs(web) for tail in all_runs(other)]
            self.assertEqual(sorted(map(repr, all_runs(joined(web, other)))), sorted(map(repr, both)))
            run = chance.choice(both)
            self.assertEqual(len(along(joined(web, other), run, Shelf())), len(run))

    def test_how_many(self):
        self.assertEqual(len(joined(line([()] * 40), line([()] * 40))), 80)
        self.assertEqual(len(joined(line([()] * 79), [END])), 80)
        self.refused(TooMany, joined, line([()] * 40), line([()] * 41))
        self.refused(TooMany, joined, line([()] * 80), [END])
        self.refused(TooMany, joined, [END], line([()] * 80))
        six, others = [((0, 1, 2, 3, 4, 5), ())], [((5, 6, 7, 8, 9, 10), ()), ((11,), ())]
        self.assertEqual(web_rooms(joined(six, others)), list(range(12)))
        self.refused(TooMany, joined, six, others + [((12,), ())])
        self.refused(TooMany, joined, others + [((12,), ())], six)

    def test_refused(self):
        for thing in [[], tuple(WEB), [None], *odd_things(), *odd_lists()]:
            self.refused(NoWeb, joined, thing, Angry())
            self.refused(NoWeb, joined, thing, WEB)
            self.refused(NoWeb, joined, WEB, thing)
            self.refused(NoWeb, joined, line([()] * 80), thing)
        self.assertEqual(self.refused(NoWeb, joined, [END, None], [None]).row, 1)
        self.assertEqual(self.refused(NoWeb, joined, [END, END], [None]).row, 0)

    def test_what_is_told_is_the_askers_own(self):
        self.own(lambda: joined(WEB, WEB), WEB)


class TestWebs(unittest.TestCase):

    def test_all_that_is_told_is_a_web(self):
        for web in WEBS:
            rooms = rooms_of_web(web)
            for told in (put_ahead(web, 0, 3), called(web, [(room, 99 - room) for room in rooms]),
                         ordered(web, [0, *range(len(web) - 1, 0, -1)]), joined(web, web)):
                self.assertIsInstance(told, list)
                self.assertIsNone(look_at_web(told))


if __name__ == "__main__":
    unittest.main()
