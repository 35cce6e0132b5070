"""Point [9]: webs."""

import copy
import unittest

from surehand.ages import ages, lets_ages
from surehand.changes import called, joined, ordered, put_ahead, turned_by
from surehand.costs import is_ending, lets_costs
from surehand.dearest import dearest
from surehand.errors import HandError, NoWeb
from surehand.greater import greater, lets_greater
from surehand.greatests import greatest_sets, lets_greatest
from surehand.keeper import Keeper
from surehand.lays import lays_many, lets_stands, stands
from surehand.leasts import least_sets, lets_least
from surehand.runs import along, is_run
from surehand.settled import lets_settled, settled
from surehand.shelves import Shelf
from surehand.sure import lets_sure, numbers, sure
from surehand.texts import shown_web
from surehand.walks import Walk
from surehand.webs import look_at_web, met_rows, web_rooms
from tests.helper import Angry, nested, odd_lists, odd_things, shown

END = ((), ())
WEB = [((5, 9), (1, 2)), ((), (0, 3)), ((1,), (2, 3)), ((0, 99), ()), ((5,), (0, 4)), ((7,), ())]
ASKING = (look_at_web, web_rooms, met_rows, lambda web: is_run(web, [(0, None)]),
          lambda web: along(web, [(0, None)], Shelf()), lambda web: along(web, None, Shelf()),
          lambda web: is_run(web, Angry()), lambda web: Walk(web, Shelf()), lambda web: Walk(web, Angry()),
          lambda web: least_sets(web, Angry()), lambda web: lets_least(web, Angry(), Angry()),
          lambda web: greatest_sets(web, Angry()), lambda web: lets_greatest(web, Angry(), Angry()),
          lambda web: numbers(web, Angry(), Angry()), lambda web: sure(web, Angry(), Angry(), Angry()),
          lambda web: lets_sure(web, Angry(), Angry(), Angry(), Angry()), lambda web: ages(web, Angry()),
          lambda web: lets_ages(web, Angry(), Angry()), lambda web: lays_many(web, Angry(), Angry()),
          lambda web: stands(web, Angry(), Angry()), lambda web: lets_stands(web, Angry(), Angry(), Angry()),
          lambda web: settled(web, Angry(), Angry(), Angry(), Angry()),
          lambda web: lets_settled(web, Angry(), Angry(), Angry(), Angry(), Angry()),
          lambda web: greater(web, Angry(), Angry(), Angry()),
          lambda web: lets_greater(web, Angry(), Angry(), Angry(), Angry()), is_ending,
          lambda web: lets_costs(web, Angry(), Angry(), Angry(), Angry(), Angry()),
          lambda web: dearest(web, Angry(), Angry(), Angry(), Angry()), lambda web: put_ahead(web, Angry(), Angry()),
          lambda web: turned_by(web, Angry(), Angry(), Angry(), Angry()), lambda web: called(web, Angry()),
          lambda web: ordered(web, Angry()), lambda web: joined(web, Angry()), lambda web: joined([END], web), shown_web,
          lambda web: Keeper(web, Angry(), Angry()), lambda web: Keeper([END]).change(web))


class WebCase(unittest.TestCase):

    def let_by(self, web):
        before = copy.deepcopy(web)
        self.assertIsNone(look_at_web(web), web)
        self.assertEqual(web, before)

    def refused(self, thing, row):
        for number, asking in enumerate(ASKING):
            with self.subTest(asking=number, thing=shown(thing)):
                with self.assertRaises(NoWeb) as caught:
                    asking(thing)
                self.assertEqual(caught.exception.row, row)
                self.assertIsInstance(caught.exception, HandError)


class TestLook(WebCase):

    def test_webs(self):
        for web in ([END], [((1,), (0,))], [((), (0,))], WEB, [((0, 1, 2, 3, 4, 5), ())], [((94, 99), ())]):
            self.let_by(web)
        self.assertIsNone(look_at_web(thing=WEB))

    def test_no_list(self):
        for thing in [tuple(WEB), END, (END,), 0, 7, {0: END}, *odd_things(), nested(3000, lambda one: (one,), [])]:
            self.refused(thing, None)

    def test_how_many_rows(self):
        for many in (1, 2, 79, 80):
            self.let_by([END] * many)
        for many in (0, 81, 82, 200):
            self.refused([END] * many, None)
        self.refused([Angry()] * 81, None)

    def test_all_tos_at_once(self):
        self.let_by([((), tuple(range(80)))] * 80)
        self.refused([((), tuple(range(80)))] * 79, 0)
        self.refused([((), tuple(range(81)))] * 80, 0)

    def test_no_rows(self):
        for thing in [[(), ()], (), ((),), ((), (), ()), 0, "", ([], ()), ((), []), (None, ()), ((), None), ("", ()),
                      ((), ""), ({}, ()), ((), {}), (Angry(), ()), ((), Angry()), (0, 0), (((1,),), ()),
                      *odd_things(), *odd_lists()]:
            self.refused([thing], 0)
            self.refused([END, thing], 1)
            self.refused([END, END, thing, Angry()], 2)
            self.refused([thing] + [END] * 79, 0)
            self.refused([END] * 79 + [thing], 79)
        ring = []
        ring.append(ring)
        self.refused(ring, 0)

    def test_rooms(self):
        for rooms in ((), (0,), (99,), (0, 99), (0, 1, 2, 3, 4, 5)):
            self.let_by([END, (rooms, (0,))])
        for rooms in [(0, 1, 2, 3, 4, 5, 6), (-1,), (100,), (1, 1), (2, 1), (1, 3, 2), (0, 2, 2), (True,), (0, True),
                      (False,), (None,), ("1",), [1], (1, None), ((1,),), 1, (Angry(),), (1, Angry()), (10 ** 50,),
                      *odd_things()]:
            self.refused([END, (rooms, (0,))], 1)

    def test_tos(self):
        for tos in ((), (0,), (1,), (2,), (0, 1), (0, 2), (0, 1, 2)):
            self.let_by([END, ((4,), tos), END])
        for tos in [(3,), (-1,), (0, 3), (0, 0), (1, 0), (0, 2, 1), (0, 1, 1), (True,), (0, True), (False,), (None,),
                    ("0",), [0], (0, None), ((0,),), 0, (Angry(),), (0, Angry()), (10 ** 50,), (0, 1, 2, 3),
                    *odd_things()]:
            self.refused([END, ((4,), tos), END], 1)

    def test_how_many_rooms(self):
        twelve = [((0, 1, 2, 3, 4, 5), (1,)), ((6, 7, 8, 9, 10, 11), (2,)), ((0, 3, 11), ())]
        self.let_by(twelve)
        self.let_by([((room,), ()) for room in range(50, 62)] * 6)
        thirteen = twelve[:2] + [((12,), ())]
        self.refused(thirteen, None)
        self.refused([((room,), ()) for room in range(13)], None)
        self.refused([END] + [((room,), ()) for room in range(87, 100)], None)
        self.refused(thirteen + [((), (4,))], 3)
        self.refused(thirteen + [None], 3)
        self.refused([((7, 7), ())] + thirteen, 0)

    def test_the_first_is_told(self):
        self.refused([END, ((), (9,)), None, ((1, 0), ())], 1)
        self.refused([END, END, None, ((), (9,))], 2)


class TestTold(unittest.TestCase):

    def test_rooms(self):
        self.assertEqual(web_rooms(WEB), [0, 1, 5, 7, 9, 99])
        self.assertEqual(web_rooms([END]), [])
        self.assertEqual(web_rooms(web=[((3,), (0,)), ((1, 3), ())]), [1, 3])

    def test_met_rows(self):
        self.assertEqual(met_rows(WEB), [0, 1, 2, 3])
        self.assertEqual(met_rows([END]), [0])
        self.assertEqual(met_rows([END, END]), [0])
        self.assertEqual(met_rows([((1,), (0,)), ((), (0,))]), [0])
        self.assertEqual(met_rows(web=[((), (2,)), END, ((), (3,)), ((), (0, 1))]), [0, 1, 2, 3])
        self.assertEqual(met_rows([((), (3,)), ((), (2,)), ((), (1,)), END]), [0, 3])
        self.assertEqual(met_rows([((), (1, 4)), ((), (1,)), ((), (0,)), ((), (2,)), ((9,), (5,)), END]), [0, 1, 4, 5])
        chain = [((), (79,))] + [END] + [((), (row - 1,)) for row in range(2, 80)]
        self.assertEqual(met_rows(chain), list(range(80)))
        self.assertEqual(met_rows([((), tuple(range(80)))] * 80), list(range(80)))

    def test_what_is_told_is_the_askers_own(self):
        web = list(WEB)
        for asking, told in ((web_rooms, [0, 1, 5, 7, 9, 99]), (met_rows, [0, 1, 2, 3])):
            first = asking(web)
            self.assertIsInstance(first, list)
            first.append(44)
            first[0] = 43
            self.assertEqual(asking(web), told)
        self.assertEqual(web, WEB)


if __name__ == "__main__":
    unittest.main()
