"""Point [3]: the promise over the whole program, its parts held against one another and against runs."""

import random
import unittest

from surehand.ages import ages
from surehand.changes import called, joined, ordered, put_ahead, turned_by
from surehand.costs import is_ending, lets_costs, told_cost
from surehand.dearest import dearest
from surehand.desk import Desk
from surehand.errors import TooMany
from surehand.greater import greater, lets_greater
from surehand.greatests import greatest_sets
from surehand.keeper import Keeper
from surehand.leasts import least_sets
from surehand.making import web_of
from surehand.programs import reach
from surehand.runs import along
from surehand.settled import lets_settled, settled
from surehand.shelves import Shelf
from surehand.sure import lets_sure, numbers, sure
from surehand.texts import read_program, read_web, shown_program, shown_web
from surehand.webs import met_rows, web_rooms
from tests.helper import (WAYS, all_asks, all_runs, chance_program, chance_run, cost_of, ending_web, how_many_lays,
                          lays_of_web, lists_of_program, lists_of_web, rooms_of_web, some_webs)


def some_lay(chance, web, size, way):
    """A lay of a web by chance."""
    return chance.choice(lays_of_web(web, size, way))


def small_ways(chance, web, most):
    """Tuples (size, way) for which a web has few lays."""
    kinds = [(size, way) for way in WAYS for size in (1, 2, 4) if how_many_lays(web, size, way) * len(web) <= most]
    return chance.sample(kinds, min(2, len(kinds)))


def all_words(web, size, way):
    """The words of all asks, as settled tells them."""
    return {(row, room): settled(web, row, room, size, way)[0] for row, room in all_asks(web)}


class TestWhole(unittest.TestCase):

    def test_a_just_one_of_four(self):
        chance = random.Random(101)
        for web in some_webs(chance, 25):
            met = met_rows(web)
            for size, way in small_ways(chance, web, 1500):
                words = all_words(web, size, way)
                for (row, room), word in words.items():
                    self.assertIn(word, ("unmet", "always", "never", "some"))
                    self.assertEqual(word == "unmet", row not in met)
                    self.assertIs(lets_settled(web, row, room, settled(web, row, room, size, way), size, way), True)
                self.check_runs(chance, web, size, way, words)

    def check_runs(self, chance, web, size, way, words):
        """No run, whatever lay first, is against the words."""
        for _ in range(10):
            run = chance_run(chance, web, 30)
            told = along(web, run, Shelf(size, way, *some_lay(chance, web, size, way)))
            for (row, room), near in zip(run, told):
                if room is not None:
                    self.assertIn(words[row, room], ("some", "always" if near else "never"))

    def test_b_whatever_is_let_by_holds(self):
        chance = random.Random(102)
        for web in some_webs(chance, 25):
            for row, room in all_asks(web):
                size = chance.choice((1, 2, 3))
                true = sure(web, row, room, size)[0]
                tables = [least_sets(web, room), greatest_sets(web, room), [[()] for _ in web], [[None] for _ in web]]
                for word in ("unmet", "always", "never"):
                    for table in tables:
                        if lets_sure(web, row, room, (word, table), size):
                            self.assertIn(true, (word, "unmet"))

    def test_c_and_d_two_numbers_settle_all_sizes(self):
        chance = random.Random(103)
        for web in some_webs(chance, 25):
            for row, room in all_asks(web):
                told = numbers(web, row, room)
                for size in range(1, 9):
                    word = sure(web, row, room, size)[0]
                    must = "some"
                    if told is None:
                        must = "unmet"
                    elif size <= told[0]:
                        must = "never"
                    elif told[1] is not None and size > told[1]:
                        must = "always"
                    self.assertEqual(word, must)
                    if how_many_lays(web, size, "last") * len(web) <= 1500:
                        self.assertEqual(settled(web, row, room, size)[0], must)

    def test_d_a_greater_shelf_by_last_never_loses(self):
        chance = random.Random(104)
        for web in some_webs(chance, 25):
            for row, room in all_asks(web):
                words = [sure(web, row, room, size)[0] for size in range(1, 9)]
                if "always" in words:
                    self.assertEqual(set(words[words.index("always"):]), {"always"})

    def test_e_greater_shelves(self):
        chance = random.Random(105)
        for web in some_webs(chance, 20):
            for way, lesser, size in (("first", 2, 3), ("tree", 2, 4), ("last", 1, 3)):
                try:
                    told = greater(web, lesser, size, way)
                except TooMany:
                    continue
                self.assertIs(lets_greater(web, lesser, size, told, way), True)
                run = told[1] if told[0] == "loses" else chance_run(chance, web, 40)
                pairs = list(zip(along(web, run, Shelf(lesser, way)), along(web, run, Shelf(size, way))))
                self.assertEqual(pairs[-1] == (True, False), told[0] == "loses")
                self.assertTrue(told[0] == "loses" or (True, False) not in pairs)

    def test_f_costs(self):
        chance = random.Random(106)
        for _ in range(30):
            web = ending_web(chance, 6, range(1, 5))
            for size, way in small_ways(chance, web, 800):
                cost, lay, run, paper = dearest(web, size, way, 2, 9)
                self.assertEqual(cost_of(run, lay, way, 2, 9), cost)
                self.assertTrue(lets_costs(web, paper, size, way, 2, 9) and told_cost(paper) == cost)
                for one in all_runs(web):
                    self.assertLessEqual(cost_of(one, some_lay(chance, web, size, way), way, 2, 9), cost)

    def test_g_ages(self):
        chance = random.Random(107)
        for web in some_webs(chance, 25):
            size = chance.choice((1, 2, 3))
            table, rooms = ages(web, size), rooms_of_web(web)
            for _ in range(8):
                run = chance_run(chance, web, 25)
                shelf = Shelf(size, "last", *some_lay(chance, web, size, "last"))
                for row, room in run:
                    slots = shelf.lay()[0]
                    for one, above, below in zip(rooms, *table[row]):
                        place = slots.index(one) if one in slots else size
                        self.assertTrue(below <= place and (place <= above or above == size))
                    if room is not None:
                        shelf.ask(room)

    def test_h_a_room_put_ahead(self):
        chance = random.Random(108)
        for web in some_webs(chance, 20):
            row, room = chance.randrange(len(web)), chance.choice(rooms_of_web(web) + [70])
            new = put_ahead(web, row, room)
            for size, way in small_ways(chance, new, 1500):
                turned = {(at, one): (word, then) for at, one, word, then in turned_by(web, row, room, size, way)}
                then = all_words(new, size, way)
                for (at, one), word in all_words(web, size, way).items():
                    self.assertEqual(turned.get((at, one), (word, word)), (word, then[at + (at >= row), one]))

    def test_h_names_and_orders(self):
        chance = random.Random(109)
        for web in some_webs(chance, 20) + [ending_web(chance, 6, range(4)) for _ in range(10)]:
            rooms = web_rooms(web)
            news = dict(zip(rooms, chance.sample(range(100), len(rooms))))
            order = [0] + chance.sample(range(1, len(web)), len(web) - 1)
            other = ordered(called(web, list(news.items())), order)
            for size, way in small_ways(chance, web, 1500):
                words = all_words(other, size, way)
                self.assertEqual({(order[row], room): word for (row, room), word in words.items()},
                                 {(row, news[room]): word for (row, room), word in all_words(web, size, way).items()})
                if is_ending(web):
                    self.assertEqual(dearest(web, size, way)[0], dearest(other, size, way)[0])

    def test_i_programs_texts_and_keepers(self):
        chance = random.Random(110)
        looked_at = 0
        for _ in range(60):
            program = chance_program(chance)
            self.assertEqual(read_program(shown_program(program)), program)
            if reach(program) > 20:
                continue
            web = web_of(program)
            self.assertEqual(lists_of_web(web, 4), lists_of_program(program, 4))
            self.assertEqual(read_web(shown_web(web)), web)
            desk = Desk()
            for size, way in small_ways(chance, web, 1500):
                keeper = Keeper(web, size, way)
                text = shown_program(program).replace("\n", "; ")
                self.assertEqual(desk.say(f"program x {size} {way} {text}"), "ok")
                self.assertEqual(desk.say("shown x").replace("; ", "\n"), shown_web(keeper.web()))
                self.assertEqual(desk.say("words x").split(" "), [str(many) for _, many in
                                                                  sorted(keeper.counts().items())])
                self.assertEqual({(row, room): word for row, room, word in keeper.words()}, all_words(web, size, way))
                looked_at += 1
        self.assertGreater(looked_at, 20)

    def test_i_keepers_after_deeds(self):
        chance = random.Random(111)
        for web in some_webs(chance, 10):
            keeper = Keeper(web, 2, "first")
            keeper.put(chance.randrange(len(web)), chance.choice(rooms_of_web(web) + [9]))
            keeper.change(joined(web, [((5,), ())]))
            keeper.grow(1)
            for _ in range(4):
                self.assertEqual({(row, room): word for row, room, word in keeper.words()},
                                 all_words(keeper.web(), keeper.size(), keeper.way()))
                if len(keeper) > 0:
                    keeper.undo()
            self.assertEqual(keeper, Keeper(web, 2, "first"))


if __name__ == "__main__":
    unittest.main()
