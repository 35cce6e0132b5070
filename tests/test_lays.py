"""Point [19]: the lays of a web, and tables of lays."""

import copy
import random
import unittest

from surehand.errors import HandError, NoShelf, NoWeb, TooMany
from surehand.lays import lays_many, lets_stands, stands
from surehand.ways import asked, is_lay
from tests.helper import (Angry, SIZES, WAYS, WEBS, all_bits, how_many_lays, lays_of_web, odd_lists, odd_things,
                          rooms_of_web, shown, some_webs, told_stands)

# Row 1 leads to itself; no run comes to row 3.
WEB = [((1,), (1,)), ((2,), (1, 2)), ((), ()), ((1, 2), (2, 3))]


def web_of_rooms(rooms, rows):
    """A web of so many rows with so many rooms, each row leading to the next one."""
    return [((row,) if row < rooms else (), (row + 1,) if row + 1 < rows else ()) for row in range(rows)]


def is_closed(web, table, size, way):
    """Whether a list of lists of lays of the web is a table of lays, word by word as the point tells it."""
    if sorted(table[0]) != lays_of_web(web, size, way):
        return False
    return all(asked(lay, room, way)[0] in table[to] if room is not None else lay in table[to]
               for (rooms, tos), lays in zip(web, table) for lay in lays for room in rooms or (None,) for to in tos)


class TestLaysMany(unittest.TestCase):

    def test_by_hand(self):
        self.assertEqual(lays_many([((), ())]), 1)
        self.assertEqual(lays_many([((5,), ())]), 5)
        self.assertEqual(lays_many(WEB, 1), 3)
        self.assertEqual(lays_many(WEB, 2), 7)
        self.assertEqual(lays_many(WEB, 2, "first"), 7)
        self.assertEqual(lays_many(WEB, 2, "tree"), 14)
        self.assertEqual(lays_many(WEB, 1, "tree"), 3)
        self.assertEqual(lays_many(way="tree", web=[((), ())], size=8), 128)
        self.assertEqual(lays_many(WEB), lays_many(WEB, 4, "last"))

    def test_as_many_as_there_are(self):
        for web in WEBS:
            for way in WAYS:
                for size in SIZES[way]:
                    many = lays_many(web, size, way)
                    self.assertEqual(many, how_many_lays(web, size, way))
                    if many <= 5000:
                        self.assertEqual(many, len(lays_of_web(web, size, way)))

    def test_thousands_of_millions(self):
        web = web_of_rooms(12, 80)
        self.assertEqual(lays_many(web, 8, "tree"), 9824157824)
        self.assertEqual(lays_many(web, 8, "last"), 76751233)
        self.assertEqual(lays_many(web, 8, "first"), 76751233)
        for rooms in range(13):
            for way in WAYS:
                for size in SIZES[way]:
                    web = web_of_rooms(rooms, 12)
                    self.assertEqual(lays_many(web, size, way), how_many_lays(web, size, way))


class TestStands(unittest.TestCase):

    def test_by_hand(self):
        self.assertEqual(stands(WEB, 1), [[((-1,), ()), ((1,), ()), ((2,), ())], [((1,), ()), ((2,), ())],
                                          [((2,), ())], []])
        self.assertEqual(stands(size=1, way="tree", web=WEB), stands(WEB, 1))
        self.assertEqual(stands([((5,), (1,)), ((), ())], 2, "first"),
                         [[((-1, -1), ()), ((-1, 5), ()), ((5, -1), ())], [((-1, 5), ()), ((5, -1), ())]])
        self.assertEqual(stands([((5,), (1,)), ((), ())], 2, "last")[1], [((5, -1), ())])
        self.assertEqual(stands([((5,), (1,)), ((), ())], 2, "tree")[1], [((-1, 5), (0,)), ((5, -1), (1,))])
        self.assertEqual(stands([((), (0,))]), [[((-1,) * 4, ())]])
        self.assertEqual(stands(WEB), stands(WEB, 4, "last"))

    def test_a_web_without_rooms(self):
        web = [((), (1,)), ((), (0,)), ((), ())]
        for way in WAYS:
            for size in SIZES[way]:
                lays = [((-1,) * size, bits) for bits in all_bits(size, way)]
                self.assertEqual(stands(web, size, way), [lays, lays, []])
                self.assertIs(lets_stands(web, [lays, lays, []], size, way), True)

    def test_against_another_reckoning(self):
        chance = random.Random(24)
        for web in some_webs(chance, 25):
            before = copy.deepcopy(web)
            for way in WAYS:
                for size in SIZES[way]:
                    if lays_many(web, size, way) * len(web) <= 2500:
                        table = stands(web, size, way)
                        self.assertEqual(table, told_stands(web, size, way), (web, size, way))
                        self.assertTrue(all(is_lay(lay, size, way) for lays in table for lay in lays))
                        self.assertIs(lets_stands(web, table, size, way), True)
            self.assertEqual(web, before)

    def test_what_is_told_is_the_askers_own(self):
        web = [((), (1,)), ((), (0,)), ((3,), ())]
        told = stands(web, 2)
        must = copy.deepcopy(told)
        told[0].append(5)
        told[2].append(6)
        self.assertEqual(told[1], must[1])
        told[1].clear()
        self.assertEqual(stands(web, 2), must)


class TestRefused(unittest.TestCase):

    def askings(self, web, size, way):
        return [lambda: stands(web, size, way), lambda: lets_stands(web, Angry(), size, way),
                lambda: lets_stands(web, [[]], way=way, size=size), lambda: lays_many(web, size, way)]

    def test_no_web(self):
        for thing in [[], tuple(WEB), [None], *odd_things(), *odd_lists()]:
            for size, way in ((4, "last"), (0, "last"), (Angry(), Angry())):
                for asking in self.askings(thing, size, way):
                    with self.subTest(shown(thing)):
                        self.assertRaises(NoWeb, asking)
        with self.assertRaises(NoWeb) as caught:
            stands(web_of_rooms(12, 79) + [None], 8, "tree")
        self.assertEqual(caught.exception.row, 79)

    def no_shelf(self, size, way, part):
        for web in (WEB, web_of_rooms(12, 80)):
            for asking in self.askings(web, size, way):
                with self.subTest(shown((size, way))), self.assertRaises(NoShelf) as caught:
                    asking()
                self.assertEqual(caught.exception.part, part)

    def test_no_shelf(self):
        for way in [0, "Last", "last ", ["last"], ("last",), *odd_things(), *odd_lists()]:
            if not isinstance(way, str) or way not in WAYS:
                self.no_shelf(2, way, "way")
                self.no_shelf(0, way, "way")
                self.no_shelf(Angry(), way, "way")
        for way in WAYS:
            for size in [0, 9, -1, 10 ** 50, "4", (4,), [4], *odd_things(), *odd_lists()]:
                self.no_shelf(size, way, "size")
        for size in (3, 5, 6, 7):
            self.no_shelf(size, "tree", "size")

    def test_how_many_are_too_many(self):
        # No web has just 20000, lays times rows: these have the most below and the fewest above.
        for rooms, size, way, rows in ((11, 2, "tree", 75), (6, 4, "last", 19), (4, 6, "first", 19), (3, 4, "tree", 34),
                                       (5, 4, "last", 39), (7, 3, "first", 55), (4, 4, "tree", 11), (5, 4, "tree", 4)):
            few = web_of_rooms(rooms, rows) if rows >= rooms else [((0, 1, 2, 3, 4), ())] * rows
            many = few + [((), ())]
            lays = how_many_lays(few, size, way)
            self.assertEqual(len(rooms_of_web(few)), rooms)
            self.assertLessEqual(lays * rows, 20000)
            self.assertGreater(lays * (rows + 1), 20000)
            table = stands(few, size, way)
            self.assertEqual(len(table[0]), lays)
            self.assertIs(lets_stands(few, table, size, way), True)
            self.assertEqual(lays_many(many, size, way), lays)
            for asking in (lambda: stands(many, size, way), lambda: lets_stands(many, table + [[]], size, way),
                           lambda: lets_stands(many, Angry(), size, way)):
                with self.assertRaises(TooMany) as caught:
                    asking()
                self.assertIsInstance(caught.exception, HandError)

    def test_rows_to_which_no_run_comes_count(self):
        web = [((0, 1, 2, 3, 4), ())]
        self.assertEqual(lays_many(web, 4), 501)
        self.assertEqual(len(stands(web + [((), ())] * 38, 4)), 39)
        self.assertRaises(TooMany, stands, web + [((), ())] * 39, 4)
        self.assertRaises(TooMany, lets_stands, web + [((), ())] * 39, None, 4)


class TestLetsStands(unittest.TestCase):

    def lets(self, table, must, web=None, size=1, way="last"):
        with self.subTest(shown(table)):
            self.assertIs(lets_stands(WEB if web is None else web, table, size, way), must)

    def test_let_by(self):
        none, one, two = ((-1,), ()), ((1,), ()), ((2,), ())
        self.lets([[none, one, two], [one, two], [two], []], True)
        self.lets([[two, none, one], [two, one], [two], []], True)
        self.lets([[none, one, two], [one, two, none], [two], []], True)
        self.lets([[none, one, two], [one, two], [two, none], []], True)
        self.lets([[none, one, two]] * 4, True)
        self.lets([[none, one, two], [one, two], [one, two], [one, two]], True)
        self.assertIs(lets_stands(thing=stands(WEB, 2, "tree"), way="tree", size=2, web=WEB), True)
        self.assertIs(lets_stands(WEB, stands(WEB)), True)
        self.assertIs(lets_stands(WEB, stands(WEB, 3)), False)
        self.assertIs(lets_stands(WEB, stands(WEB, 4, "tree")), False)

    def test_not_closed(self):
        none, one, two = ((-1,), ()), ((1,), ()), ((2,), ())
        self.lets([[one, two], [one, two], [two], []], False)
        self.lets([[none, one], [one, two], [two], []], False)
        self.lets([[], [], [], []], False)
        self.lets([[none, one, two], [two], [two], []], False)
        self.lets([[none, one, two], [one], [two], []], False)
        self.lets([[none, one, two], [one, two], [one], []], False)
        self.lets([[none, one, two], [one, two], [], []], False)
        # No run comes to row 3, but what it has must be led on nonetheless.
        self.lets([[none, one, two], [one, two], [two], [two]], False)
        self.lets([[none, one, two], [one, two], [one, two], [two]], False)

    def test_a_lay_twice(self):
        table = stands(WEB, 2, "tree")
        for row in range(3):
            for lay in table[row]:
                self.lets(table[:row] + [table[row] + [lay]] + table[row + 1:], False, None, 2, "tree")
        all_of_them = table[0]
        self.lets([all_of_them[:-1] + all_of_them[:1]] + table[1:], False, None, 2, "tree")

    def test_a_lay_too_few(self):
        for way in WAYS:
            table = stands(WEB, 2, way)
            for row in range(3):
                for at in range(len(table[row])):
                    fewer = table[:row] + [table[row][:at] + table[row][at + 1:]] + table[row + 1:]
                    self.lets(fewer, False, None, 2, way)

    def test_no_lays_of_the_web(self):
        for way in WAYS:
            table = stands(WEB, 2, way)
            bits = (0,) if way == "tree" else ()
            self.lets(table, True, None, 2, way)
            for lay in [((3, 1), bits), ((1, 99), bits), ((1, 1), bits), ((1,), bits), ((1, 2, -1), bits),
                        ((1, 2), bits + (0,)), ((1, 2), (2,)), ((1, 2), None), ((1, 2),), (1, 2), [(1, 2), bits],
                        ([1, 2], bits), ((1, 2), list(bits)), ((True, 2), bits), ((1, 2), (False,)), ((-2, 1), bits),
                        ((1, 2), bits, bits), (Angry(), bits), ((Angry(), 1), bits), ((1, 2), Angry()),
                        *odd_things(), *odd_lists()]:
                for row in range(4):
                    for at in (0, len(table[row])):
                        self.lets(table[:row] + [table[row][:at] + [lay] + table[row][at:]] + table[row + 1:], False,
                                  None, 2, way)
                self.lets([table[0][1:] + [lay]] + table[1:], False, None, 2, way)

    def test_lists(self):
        table = stands(WEB, 2)
        self.lets(table, True, None, 2)
        for thing in [table[:3], table + [[]], tuple(table), [], [table], 0, {0: table}, *odd_things(), *odd_lists()]:
            self.lets(thing, False, None, 2)
        for row in range(4):
            for one in [tuple(table[row]), None, {}, {lay: 1 for lay in table[row]}, set(table[row]), 0, Angry(),
                        *odd_things()]:
                self.lets(table[:row] + [one] + table[row + 1:], False, None, 2)

    def test_by_chance(self):
        chance = random.Random(25)
        counts = {True: 0, False: 0}
        for web in some_webs(chance, 30):
            way = chance.choice(WAYS)
            size = chance.choice((1, 2))
            lays = lays_of_web(web, size, way)
            for _ in range(8):
                table = stands(web, size, way)
                for _ in range(chance.randint(1, 2)):
                    row = chance.choice(table)
                    lay = chance.choice(lays)
                    if lay not in row:
                        row.insert(chance.randint(0, len(row)), lay)
                    elif chance.random() < 0.4:
                        row.remove(lay)
                before = copy.deepcopy(table)
                must = is_closed(web, table, size, way)
                self.assertIs(lets_stands(web, table, size, way), must, (web, table, size, way))
                self.assertEqual(table, before)
                counts[must] += 1
        self.assertGreater(min(counts.values()), 50)


if __name__ == "__main__":
    unittest.main()
