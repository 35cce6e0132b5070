"""Point [28]: keepers."""

import copy
import random
import unittest

from surehand.changes import put_ahead
from surehand.errors import HandError, NoBack, NoRoom, NoRow, NoShelf, NoWeb, TooMany
from surehand.keeper import Keeper
from surehand.settled import settled
from surehand.shelves import Shelf
from tests.helper import (Angry, SIZES, WAYS, all_asks, how_many_lays, line, odd_lists, odd_things, rooms_of_web, shown,
                          some_webs, told_stands, word_of)

# Row 2 leads to itself; no run comes to row 4.
WEB = [((1,), (1, 2)), ((2, 5), (3,)), ((), (2, 3)), ((1,), ()), ((5,), (0, 4))]
END = ((), ())
WORDS = ("always", "never", "some", "unmet")


def told_words(web, size, way):
    """What `words` must tell, reckoned in another manner."""
    table = told_stands(web, size, way)
    return [(row, room, word_of(table[row], room)) for row, room in all_asks(web)]


def all_of(keeper):
    """All that a Keeper tells of itself."""
    return (keeper.web(), keeper.size(), keeper.way(), keeper.words(), keeper.counts(), len(keeper))


class KeeperCase(unittest.TestCase):

    def check(self, keeper, web, size, way, many):
        """All that it tells is so of this web, size and way."""
        words = told_words(web, size, way)
        counts = {word: [one[2] for one in words].count(word) for word in WORDS}
        self.assertEqual(all_of(keeper), (web, size, way, words, counts, many))
        self.assertEqual({(row, room): keeper.word(row, room) for row, room, _ in words},
                         {(row, room): word for row, room, word in words})

    def refused(self, keeper, error, asking, *told):
        """It is refused, and nothing is changed."""
        before = all_of(keeper)
        with self.subTest(shown(told)), self.assertRaises(error) as caught:
            asking(*told)
        self.assertEqual(all_of(keeper), before)
        if error != NoRoom:
            self.assertIsInstance(caught.exception, HandError)
        return caught.exception


class TestMade(KeeperCase):

    def test_by_hand(self):
        keeper = Keeper([((1,), (1,)), ((2,), (2,)), ((1, 3), ()), ((3,), (3,))], 2)
        self.assertEqual(keeper.words(), [(0, 1, "some"), (1, 2, "some"), (2, 1, "always"), (2, 3, "never"),
                                          (3, 3, "unmet")])
        self.assertEqual(keeper.counts(), {"always": 1, "never": 1, "some": 2, "unmet": 1})
        self.assertEqual(keeper.word(2, 3), "never")
        self.assertEqual(keeper.word(room=1, row=2), "always")
        self.assertEqual(Keeper([END]).counts(), {"always": 0, "never": 0, "some": 0, "unmet": 0})
        self.assertEqual(Keeper([END]).words(), [])

    def test_what_is_left_out(self):
        self.check(Keeper(WEB), WEB, 4, "last", 0)
        self.check(Keeper(WEB, 2), WEB, 2, "last", 0)
        self.check(Keeper(way="tree", web=WEB, size=2), WEB, 2, "tree", 0)
        self.assertFalse(Keeper(WEB))

    def test_against_another_reckoning(self):
        chance = random.Random(81)
        for web in some_webs(chance, 30):
            before = copy.deepcopy(web)
            for way in WAYS:
                size = chance.choice(SIZES[way][:3])
                if how_many_lays(web, size, way) * len(web) <= 2500:
                    self.check(Keeper(web, size, way), web, size, way, 0)
            self.assertEqual(web, before)

    def test_it_is_what_settled_tells(self):
        for way in WAYS:
            keeper = Keeper(WEB, 2, way)
            for row, room in all_asks(WEB):
                self.assertEqual(keeper.word(row, room), settled(WEB, row, room, 2, way)[0])

    def test_refused(self):
        great = line([range(5)] * 40)
        for thing in [[], tuple(WEB), [None], *odd_things(), *odd_lists()]:
            with self.subTest(shown(thing)):
                self.assertRaises(NoWeb, Keeper, thing)
                self.assertRaises(NoWeb, Keeper, thing, Angry(), Angry())
        for web in (WEB, great):
            for way in [0, "Last", ["last"], *[one for one in odd_things() + odd_lists() if one.__class__ != str]]:
                with self.subTest(shown(way)), self.assertRaises(NoShelf) as caught:
                    Keeper(web, Angry(), way)
                self.assertEqual(caught.exception.part, "way")
            for size in [0, 9, -1, "4", (4,), [4], *odd_things(), *odd_lists()]:
                with self.subTest(shown(size)), self.assertRaises(NoShelf) as caught:
                    Keeper(web, size, "tree")
                self.assertEqual(caught.exception.part, "size")
            self.assertRaises(NoShelf, Keeper, web, 3, "tree")
        self.assertRaises(TooMany, Keeper, great)
        self.assertRaises(TooMany, Keeper, [((0, 1, 2, 3, 4), ())] * 40, 4, "first")
        self.assertEqual(len(Keeper(line([range(5)] * 39)).words()), 195)


class TestDeeds(KeeperCase):

    def test_put(self):
        keeper = Keeper(WEB, 2)
        self.assertIsNone(keeper.put(3, 1))
        new = put_ahead(WEB, 3, 1)
        self.check(keeper, new, 2, "last", 1)
        keeper.put(room=7, row=0)
        self.check(keeper, put_ahead(new, 0, 7), 2, "last", 2)
        keeper.undo()
        self.check(keeper, new, 2, "last", 1)
        keeper.undo()
        self.check(keeper, WEB, 2, "last", 0)

    def test_grow(self):
        keeper = Keeper(WEB, 2, "tree")
        for many, size in enumerate((4, 1, 1, 2), 1):
            self.assertIsNone(keeper.grow(size))
            self.check(keeper, WEB, size, "tree", many)
        keeper.grow(size=2)
        for many, size in ((4, 2), (3, 1), (2, 1), (1, 4), (0, 2)):
            keeper.undo()
            self.check(keeper, WEB, size, "tree", many)

    def test_change(self):
        keeper = Keeper(WEB, 2, "first")
        other = [((9,), (0, 1)), ((8, 9), ())]
        self.assertIsNone(keeper.change(other))
        self.check(keeper, other, 2, "first", 1)
        keeper.change(web=other)
        self.check(keeper, other, 2, "first", 2)
        keeper.undo()
        keeper.undo()
        self.check(keeper, WEB, 2, "first", 0)

    def test_nothing_to_undo(self):
        keeper = Keeper(WEB, 2)
        self.refused(keeper, NoBack, keeper.undo)
        keeper.grow(3)
        self.assertIsNone(keeper.undo())
        self.refused(keeper, NoBack, keeper.undo)
        self.refused(keeper, NoBack, keeper.undo)

    def test_by_chance(self):
        chance = random.Random(82)
        for web in some_webs(chance, 12):
            way = chance.choice(WAYS)
            states = [(web, 2)]
            keeper = Keeper(web, 2, way)
            for _ in range(12):
                now, size = states[-1]
                deed = chance.choice(("put", "grow", "change", "undo", "undo"))
                room = chance.choice(rooms_of_web(now) + [50])
                if deed == "put" and len(now) < 9 and len(rooms_of_web(now)) < 4:
                    row = chance.randrange(len(now))
                    keeper.put(row, room)
                    states.append((put_ahead(now, row, room), size))
                elif deed == "grow":
                    states.append((now, chance.choice((1, 2))))
                    keeper.grow(states[-1][1])
                elif deed == "change":
                    states.append((chance.choice(some_webs(chance, 0)), size))
                    keeper.change(states[-1][0])
                elif deed == "undo" and len(states) > 1:
                    keeper.undo()
                    states.pop()
                self.check(keeper, *states[-1], way, len(states) - 1)

    def test_put_is_refused_in_order(self):
        full = Keeper(line([()] * 80), 1)
        for keeper in (Keeper(WEB, 2), full):
            for row in [-1, 80, 10 ** 50, "0", (0,), [0], *odd_things(), *odd_lists()]:
                self.refused(keeper, NoRow, keeper.put, row, 1)
                self.refused(keeper, NoRow, keeper.put, row, Angry())
            for room in [-1, 100, 10 ** 50, "1", (1,), [1], *odd_things(), *odd_lists()]:
                self.assertIs(self.refused(keeper, NoRoom, keeper.put, 2, room).room, room)
        self.refused(full, TooMany, full.put, 0, 1)
        keeper = Keeper(WEB, 2)
        self.refused(keeper, NoRow, keeper.put, 5, 1)

    def test_how_many_rows_and_rooms(self):
        keeper = Keeper(line([()] * 79), 1)
        keeper.put(78, 3)
        self.assertEqual(len(keeper.web()), 80)
        self.refused(keeper, TooMany, keeper.put, 78, 3)
        keeper = Keeper(line([(room,) for room in range(11)]), 1)
        keeper.put(3, 11)
        keeper.put(3, 11)
        self.refused(keeper, TooMany, keeper.put, 3, 12)
        self.assertEqual(len(keeper), 2)

    def test_how_many_lays(self):
        keeper = Keeper(line([range(5)] + [()] * 37))
        keeper.put(5, 4)
        self.assertEqual(len(keeper.web()), 39)
        # One row more is too many, and so is a sixth room, or a greater size.
        self.refused(keeper, TooMany, keeper.put, 5, 4)
        keeper.undo()
        self.refused(keeper, TooMany, keeper.put, 5, 9)
        self.refused(keeper, TooMany, keeper.grow, 5)
        self.refused(keeper, TooMany, keeper.change, line([range(5)] * 40))
        self.refused(keeper, TooMany, keeper.change, line([range(6)] * 20))
        keeper.change(line([range(6)] * 19))
        self.refused(keeper, TooMany, keeper.grow, 8)
        self.assertEqual(len(keeper), 1)

    def test_grow_and_change_are_refused(self):
        for way in WAYS:
            keeper = Keeper(WEB, 2, way)
            for size in [0, 9, -1, 10 ** 50, "2", (2,), [2], *odd_things(), *odd_lists()]:
                self.assertEqual(self.refused(keeper, NoShelf, keeper.grow, size).part, "size")
            for thing in [[], tuple(WEB), [None], *odd_things(), *odd_lists()]:
                self.refused(keeper, NoWeb, keeper.change, thing)
        self.assertEqual(self.refused(keeper, NoWeb, keeper.change, [END, None]).row, 1)
        for size in (3, 5, 6, 7):
            self.assertEqual(self.refused(keeper, NoShelf, keeper.grow, size).part, "size")

    def test_no_ask(self):
        keeper = Keeper(WEB, 2)
        for row, room in ((0, 2), (2, 1), (5, 1), (-1, 1), (True, 2), ("1", 2), (1, "2"), (1, True), (1, None), (1, 1),
                          (None, 1), (Angry(), 5), (1, Angry()), (1, (2,)), (1, [2])):
            self.assertIs(self.refused(keeper, NoRoom, keeper.word, row, room).room, room)
        for thing in odd_things() + odd_lists():
            self.assertIs(self.refused(keeper, NoRoom, keeper.word, thing, 5).room, 5)
            self.assertIs(self.refused(keeper, NoRoom, keeper.word, 1, thing).room, thing)
        keeper.put(0, 9)
        self.assertEqual(keeper.word(0, 9), "some")
        keeper.undo()
        self.assertIs(self.refused(keeper, NoRoom, keeper.word, 0, 9).room, 9)


class TestTwins(KeeperCase):

    def test_a_twin_goes_on_by_itself(self):
        for ask_first in (True, False):
            keeper = Keeper(WEB, 2, "first")
            keeper.put(1, 5)
            keeper.grow(1)
            if ask_first:
                keeper.words()
            other = keeper.twin()
            self.assertIsInstance(other, Keeper)
            self.assertEqual(all_of(other), all_of(keeper))
            other.undo()
            self.check(keeper, put_ahead(WEB, 1, 5), 1, "first", 2)
            self.check(other, put_ahead(WEB, 1, 5), 2, "first", 1)
            keeper.change([END])
            keeper.undo()
            keeper.undo()
            keeper.undo()
            self.check(keeper, WEB, 2, "first", 0)
            other.put(0, 1)
            self.check(other, put_ahead(put_ahead(WEB, 1, 5), 0, 1), 2, "first", 2)
            other.undo()
            other.undo()
            self.check(other, WEB, 2, "first", 0)
            self.assertRaises(NoBack, other.undo)

    def test_equal(self):
        keeper = Keeper(WEB, 2)
        self.assertTrue(keeper == Keeper(list(WEB), 2) and keeper == keeper.twin())
        self.assertFalse(keeper != Keeper(WEB, 2, "last"))
        for other in (Keeper(WEB, 3), Keeper(WEB, 2, "first"), Keeper(WEB[:2] + [((), (3,))] + WEB[3:], 2)):
            self.assertFalse(keeper == other)
            self.assertTrue(keeper != other)
        grown = Keeper(WEB, 3)
        grown.grow(2)
        self.assertTrue(keeper == grown)
        grown.put(0, 1)
        self.assertFalse(keeper == grown)
        grown.undo()
        self.assertTrue(keeper == grown)
        self.assertNotEqual(len(keeper), len(grown))

    def test_equal_to_nothing_else(self):
        keeper = Keeper(WEB, 2)
        for thing in [WEB, (WEB, 2, "last"), 0, 2, Shelf(2), *[one for one in odd_things() if one.__class__ != Angry]]:
            self.assertFalse(keeper == thing)
            self.assertTrue(keeper != thing)
        self.assertIs(keeper.__eq__(Angry()), False)


class TestOwn(KeeperCase):

    def test_what_was_handed_in(self):
        web = list(WEB)
        keeper = Keeper(web, 2)
        web[0] = END
        web.append(None)
        self.check(keeper, WEB, 2, "last", 0)
        other = [((9,), (0, 1)), ((8, 9), ())]
        must = list(other)
        keeper.change(other)
        other.clear()
        self.check(keeper, must, 2, "last", 1)
        keeper.put(0, 1)
        keeper.undo()
        self.check(keeper, must, 2, "last", 1)

    def test_what_was_told(self):
        keeper = Keeper(WEB, 2)
        keeper.put(1, 5)
        before = copy.deepcopy(all_of(keeper))
        for _ in range(2):
            keeper.web().clear()
            keeper.words().append(None)
            words = keeper.words()
            words[0] = None
            counts = keeper.counts()
            counts["some"] = 99
            counts.clear()
            web = keeper.web()
            web[0] = END
            self.assertEqual(all_of(keeper), before)
            self.assertEqual(all_of(keeper.twin()), before)
        keeper.undo()
        self.check(keeper, WEB, 2, "last", 0)


if __name__ == "__main__":
    unittest.main()
