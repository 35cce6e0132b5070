"""Point [20]: what is settled by any way and size."""

import copy
import random
import unittest

from surehand.errors import HandError, NoRoom, NoShelf, NoWeb, TooMany
from surehand.lays import lays_many, stands
from surehand.runs import along, is_run
from surehand.settled import lets_settled, settled
from surehand.shelves import Shelf
from surehand.sure import sure
from surehand.walks import Walk
from tests.helper import (Angry, SIZES, WAYS, all_asks, all_bits, chance_run, lays_of_web, odd_lists, odd_things, shown,
                          some_webs, told_stands, word_of)

# Room 1 is asked for at row 3 behind room 2, or behind itself; no run comes to row 4.
WEB = [((1,), (1, 3)), ((2,), (2, 3)), ((3,), (3,)), ((1,), ()), ((1, 2), (3, 4))]
GREAT = [((row,), (row + 1,)) for row in range(12)] + [((), ())]


class SettledCase(unittest.TestCase):

    def check_answer(self, web, row, room, size, way, table):
        """The answer is the one that is due, by a table reckoned in another manner; tell its word."""
        answer = settled(web, row, room, size, way)
        word = word_of(table[row], room)
        self.assertIsInstance(answer, tuple)
        self.assertEqual(answer[0], word, (web, row, room, size, way))
        if word == "some":
            self.assertEqual(len(answer), 3)
            self.check_run(web, row, room, size, way, answer[1], True)
            self.check_run(web, row, room, size, way, answer[2], False)
        else:
            self.assertEqual(answer, (word, table))
        self.assertIs(lets_settled(web, row, room, answer, size, way), True)
        return word

    def check_run(self, web, row, room, size, way, told, near):
        """What is told is a tuple of a lay of the web and a run to the ask, walked here step by step."""
        self.assertIsInstance(told, tuple)
        lay, run = told
        self.assertIn(lay, lays_of_web(web, size, way))
        self.assertIs(is_run(web, run), True)
        self.assertEqual(run[-1], (row, room))
        walk = Walk(web, Shelf(size, way, *lay))
        for (_, asked), (to, _) in zip(run, run[1:]):
            walk.step(asked, to)
        self.assertEqual(walk.at(), row)
        tos = web[row][1]
        self.assertIs(walk.step(room, tos[0] if tos else None), near)


class TestSettled(SettledCase):

    def test_by_hand(self):
        self.assertEqual(settled(WEB, 4, 1), ("unmet", stands(WEB)))
        self.assertEqual(settled(WEB, 3, 1), ("always", stands(WEB)))
        self.assertEqual(settled(WEB, 3, 1, 3, "last"), ("always", stands(WEB, 3)))
        self.assertEqual(settled(WEB, 3, 1, 2)[0], "some")
        self.assertEqual(settled(way="first", size=3, room=1, row=3, web=WEB)[0], "some")
        self.assertEqual(settled(WEB, 2, 3, 1), ("never", stands(WEB, 1)))
        self.assertEqual(settled([((1,), ())], 0, 1, 1),
                         ("some", (((1,), ()), [(0, 1)]), (((-1,), ()), [(0, 1)])))

    def test_each_ask_at_each_size_and_way(self):
        chance = random.Random(26)
        words = {}
        for web in some_webs(chance, 20):
            before = copy.deepcopy(web)
            for way in WAYS:
                for size in SIZES[way]:
                    if lays_many(web, size, way) * len(web) <= 1500:
                        table = told_stands(web, size, way)
                        for row, room in all_asks(web):
                            word = self.check_answer(web, row, room, size, way, table)
                            words[way, word] = words.get((way, word), 0) + 1
            self.assertEqual(web, before)
        for way in WAYS:
            for word in ("unmet", "always", "never", "some"):
                self.assertGreater(words[way, word], 5, (way, word))

    def test_many_lays(self):
        ring = [((1,), (1,)), ((2,), (2,)), ((3,), (3,)), ((1,), (0, 4)), ((), (1,))]
        for size, way in ((8, "last"), (8, "first"), (4, "tree")):
            self.assertLessEqual(lays_many(ring, size, way) * 5, 20000)
            table = told_stands(ring, size, way)
            for row, room in all_asks(ring):
                self.check_answer(ring, row, room, size, way, table)
        pair = [((1,), (1,)), ((2,), (0,))]
        self.assertEqual(lays_many(pair, 8, "tree") * 2, 18688)
        table = told_stands(pair, 8, "tree")
        for row, room in all_asks(pair):
            self.check_answer(pair, row, room, 8, "tree", table)

    def test_by_last_it_is_as_sure(self):
        chance = random.Random(27)
        for web in some_webs(chance, 30):
            for size in range(1, 9):
                if lays_many(web, size) * len(web) <= 1500:
                    for row, room in all_asks(web):
                        self.assertEqual(settled(web, row, room, size)[0], sure(web, row, room, size)[0])

    def test_it_is_so_in_runs_by_chance(self):
        chance = random.Random(28)
        for web in some_webs(chance, 30):
            way = chance.choice(WAYS)
            size = chance.choice((1, 2))
            words = {ask: settled(web, *ask, size, way)[0] for ask in all_asks(web)}
            for _ in range(20):
                # What is no room of the web lies there like nothing.
                slots = tuple(chance.sample([0, 1, 2, 3, 4, 5, 7, 8, 50, 51, -1], size))
                run = chance_run(chance, web, 25)
                told = along(web, run, Shelf(size, way, slots, chance.choice(all_bits(size, way))))
                for ask, near in zip(run, told):
                    if near is not None:
                        self.assertIn(words[ask], ("some", "always" if near else "never"))

    def test_what_is_told_is_the_askers_own(self):
        for row, room, size in ((4, 1, 4), (3, 1, 3), (2, 3, 1), (3, 1, 2)):
            answer = settled(WEB, row, room, size)
            must = copy.deepcopy(answer)
            if answer[0] == "some":
                answer[1][1].append((0, 1))
                self.assertEqual(answer[2], must[2])
                answer[2][1].clear()
            else:
                for lays in answer[1]:
                    lays.append((99,))
                answer[1].pop()
            self.assertEqual(settled(WEB, row, room, size), must)


class TestRefused(unittest.TestCase):

    def askings(self, web, row, room, size, way):
        return [lambda: settled(web, row, room, size, way), lambda: lets_settled(web, row, room, Angry(), size, way),
                lambda: lets_settled(web, row, room, ("unmet", []), way=way, size=size)]

    def test_no_web(self):
        for thing in [[], tuple(WEB), [None], *odd_things(), *odd_lists()]:
            for asking in self.askings(thing, Angry(), Angry(), Angry(), Angry()):
                with self.subTest(shown(thing)):
                    self.assertRaises(NoWeb, asking)
        with self.assertRaises(NoWeb) as caught:
            settled(WEB + [((), (70,))], 0, 1)
        self.assertEqual(caught.exception.row, 5)

    def no_room(self, web, row, room):
        for size, way in ((4, "last"), (8, "tree"), (0, "last"), (4, "x"), (Angry(), Angry())):
            for asking in self.askings(web, row, room, size, way):
                with self.subTest(shown((row, room))), self.assertRaises(NoRoom) as caught:
                    asking()
                self.assertIs(caught.exception.room, room)
                self.assertNotIsInstance(caught.exception, HandError)

    def test_no_room(self):
        for web in (WEB, GREAT):
            for row in [-1, 13, 80, 10 ** 50, (0,), [0], *odd_things(), *odd_lists()]:
                self.no_room(web, row, 1)
                self.no_room(web, row, None)
            for room in [5, 99, -1, 100, (1,), [1], *odd_things(), *odd_lists()]:
                self.no_room(web, 0, room)
                self.no_room(web, Angry(), room)
        self.no_room(WEB, 0, 2)
        self.no_room(WEB, False, 1)
        self.no_room(WEB, 0, True)

    def no_shelf(self, size, way, part):
        for web in (WEB, GREAT):
            for asking in self.askings(web, 2, web[2][0][0], size, way):
                with self.subTest(shown((size, way))), self.assertRaises(NoShelf) as caught:
                    asking()
                self.assertEqual(caught.exception.part, part)

    def test_no_shelf(self):
        for way in [0, "Last", "last ", ["last"], ("last",), *odd_things(), *odd_lists()]:
            if not isinstance(way, str) or way not in WAYS:
                for size in (2, 0, Angry()):
                    self.no_shelf(size, way, "way")
        for way in WAYS:
            for size in [0, 9, -1, 10 ** 50, "4", (4,), [4], *odd_things(), *odd_lists()]:
                self.no_shelf(size, way, "size")
        for size in (3, 5, 6, 7):
            self.no_shelf(size, "tree", "size")

    def test_too_many(self):
        for way in WAYS:
            for asking in self.askings(GREAT, 2, 2, 4, way):
                self.assertRaises(TooMany, asking)
        few = [((0, 1, 2, 3, 4), ())] + [((), ())] * 38
        self.assertEqual(settled(few, 0, 1)[0], "some")
        self.assertIs(lets_settled(few, 0, 1, settled(few, 0, 1)), True)
        for asking in self.askings(few + [((), ())], 0, 1, 4, "first"):
            self.assertRaises(TooMany, asking)


class TestLetsSettled(SettledCase):

    def lets(self, answer, must, row=3, room=1, size=2, way="first"):
        with self.subTest(shown(answer)):
            self.assertIs(lets_settled(WEB, row, room, answer, size, way), must)

    def test_words_of_others(self):
        for row, room in all_asks(WEB):
            for size, way in ((1, "last"), (2, "tree"), (3, "last"), (3, "first")):
                word, *told = settled(WEB, row, room, size, way)
                for other in ("unmet", "always", "never", "some", "", "Always", None, 0, b"always", ("always",),
                              Angry()):
                    self.lets((other, *told), isinstance(other, str) and other == word, row, room, size, way)

    def test_always(self):
        table = stands(WEB, 3)
        self.lets(("always", table), True, size=3, way="last")
        self.lets(("always", table), False, size=3, way="first")
        self.lets(("always", table), False, size=2, way="last")
        more = copy.deepcopy(table)
        more[3].append(((-1, 1, -1), ()))
        self.lets(("always", more), True, size=3, way="last")
        more[3].append(((2, -1, -1), ()))
        self.lets(("always", more), False, size=3, way="last")
        self.lets(("always", table[:3] + [table[3][1:]] + table[4:]), False, size=3, way="last")
        self.lets(("always", table[:3] + [[]] + table[4:]), False, size=3, way="last")

    def test_never(self):
        table = stands(WEB, 1)
        self.lets(("never", table), True, 2, 3, 1)
        more = copy.deepcopy(table)
        more[2].append(((1,), ()))
        self.lets(("never", more), True, 2, 3, 1)
        more[2].append(((3,), ()))
        self.lets(("never", more), False, 2, 3, 1)
        self.lets(("never", table[:2] + [[]] + table[3:]), False, 2, 3, 1)

    def test_where_no_run_comes(self):
        table = stands(WEB, 1)
        self.lets(("unmet", table), True, 4, 1, 1)
        self.lets(("always", table), False, 4, 1, 1)
        self.lets(("never", table), False, 4, 1, 1)
        # Row 4 asks for room 1 or 2 and leads to itself: it must have both lays, or none.
        one, two = ((1,), ()), ((2,), ())
        table[3] = [one, two, ((3,), ())]
        self.lets(("unmet", table), True, 4, 1, 1)
        self.lets(("always", table[:4] + [[one]]), False, 4, 1, 1)
        self.lets(("never", table[:4] + [[one, two]]), False, 4, 1, 1)
        self.lets(("unmet", table[:4] + [[one, two]]), False, 4, 1, 1)
        web = [((), ()), ((1,), ())]
        lays = lays_of_web(web, 1, "last")
        self.assertIs(lets_settled(web, 1, 1, ("always", [lays, [one]]), 1), True)
        self.assertIs(lets_settled(web, 1, 1, ("never", [lays, [((-1,), ())]]), 1), True)
        self.assertIs(lets_settled(web, 1, 1, ("always", [lays, []]), 1), False)
        self.assertIs(lets_settled(web, 1, 1, ("never", [lays, []]), 1), False)
        self.assertIs(lets_settled(web, 1, 1, ("unmet", [lays, []]), 1), True)
        self.assertIs(lets_settled(web, 1, 1, ("unmet", [lays, [one]]), 1), False)
        self.assertIs(lets_settled(web, 1, 1, ("always", [lays, lays]), 1), False)

    def test_unmet_where_runs_come(self):
        for row, room in all_asks(WEB):
            self.lets(("unmet", stands(WEB, 2, "first")), row == 4, row, room)

    def test_some(self):
        near, far = [(0, 1), (3, 1)], [(0, 1), (1, 2), (2, 3), (3, 1)]
        lay, bits = ((-1, -1), ()), ((-1, -1), (0,))
        good = ("some", (lay, near), (lay, far))
        self.lets(good, True)
        self.lets(good, True, way="last")
        self.lets(good + (None,), False)
        self.lets(good + ((lay, far),), False)
        self.lets(good[:2], False)
        self.lets(list(good), False)
        self.lets(good, False, way="tree")
        self.lets(good, False, size=3)
        self.lets(("some", (bits, near), (bits, far)), True, way="tree")
        self.lets(("some", (((2, 1), ()), near), (((2, 1), ()), far)), True)
        # By first room 1 is not put ahead by its ask, and is left out or not as it lay at first.
        self.lets(("some", (((2, 1), ()), near), (((1, 2), ()), far)), False)
        self.lets(("some", (lay, far), (lay, near)), False)
        self.lets(("some", (lay, near), (lay, near)), False)
        self.lets(("some", (lay, far), (lay, far)), False)
        for thing in [(), (lay,), (lay, near, far), [lay, near], (near, lay), {0: lay, 1: near}, near, lay, Angry(),
                      *odd_things(), *odd_lists()]:
            self.lets(("some", thing, (lay, far)), False)
            self.lets(("some", (lay, near), thing), False)
        # A room that the web hasn't lies in no lay of the web.
        for bad in [((50, -1), ()), ((-1, 4), ()), (-1, -1), ((-1,), ()), bits, [(-1, -1), ()], ((1, 1), ()),
                    ((True, 2), ()), ((-1, -1), []), None, (Angry(), ()), *odd_things(), *odd_lists()]:
            self.lets(("some", (bad, near), (lay, far)), False)
            self.lets(("some", (lay, near), (bad, far)), False)
        for bad in [[], near[:1], far[:3], tuple(near), tuple(far), near[1:], [(0, 1), (2, 3), (3, 1)],
                    [(0, 1), (3, True)], [(0, 1), [3, 1]], [(0, 1), (3, 1), (3, 1)], [(0, 1), (3, None)], None, Angry(),
                    *odd_things(), *odd_lists()]:
            self.lets(("some", (lay, bad), (lay, far)), False)
            self.lets(("some", (lay, near), (lay, bad)), False)

    def test_no_answers(self):
        table = stands(WEB, 3)
        for thing in [(), ("always",), ("always", table, table), ["always", table], ("always", table, None), "always",
                      table, ("some", table), ("some", (((-1,) * 3, ()), [(0, 1)])), (table, "always"),
                      {"always": table}, 0, ("always", tuple(table)), ("always", table[:4]), ("always", table + [[]]),
                      ("unmet", None), ("never", Angry()), (Angry(), table), ("always", Angry()), *odd_things(),
                      *odd_lists()]:
            self.lets(thing, False, size=3, way="last")
        for thing in [*odd_things(), *odd_lists()]:
            for word in ("always", "never", "unmet", "some"):
                self.lets((word, thing), False)
                self.lets((word, thing, thing), False)

    def test_what_is_let_by_stays_as_it_was(self):
        for row, room in all_asks(WEB):
            answer = settled(WEB, row, room, 2, "tree")
            before = copy.deepcopy(answer)
            self.assertIs(lets_settled(way="tree", size=2, thing=answer, room=room, row=row, web=WEB), True)
            self.assertEqual(answer, before)
        self.assertIs(lets_settled(WEB, 3, 1, settled(WEB, 3, 1)), True)


if __name__ == "__main__":
    unittest.main()
