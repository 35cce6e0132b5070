"""Point [6]: Shelf."""

import random
import unittest
from unittest import mock

from surehand.errors import HandError, NoRoom, NoShelf
from surehand.shelves import Shelf
from tests.helper import Angry, SIZES, WAYS, all_bits, odd_lists, odd_things, shown, some_slots, told_lay


def all_of(shelf):
    """All that a Shelf tells of itself."""
    return (shelf.size(), shelf.way(), shelf.lay(), shelf.counts(), len(shelf), str(shelf), repr(shelf))


class TestMade(unittest.TestCase):

    def test_left_out(self):
        shelf = Shelf()
        self.assertEqual(all_of(shelf), (4, "last", ((-1,) * 4, ()), (0, 0), 0, "- - - -",
                                         "Shelf(4, 'last', (-1, -1, -1, -1), ())"))

    def test_empty_of_each_way_and_size(self):
        for way in WAYS:
            for size in SIZES[way]:
                lay = ((-1,) * size, (0,) * (size - 1) if way == "tree" else ())
                for shelf in (Shelf(size, way), Shelf(size, way, None, None), Shelf(bits=None, way=way, size=size),
                              Shelf(size, way, lay[0]), Shelf(size, way, bits=lay[1]), Shelf(size, way, *lay)):
                    self.assertEqual((shelf.size(), shelf.way(), shelf.lay()), (size, way, lay))
                    self.assertEqual(shelf.counts(), (0, 0))
                    self.assertFalse(shelf)

    def test_with_slots_and_bits(self):
        for way in WAYS:
            for size in SIZES[way]:
                for slots in some_slots(size):
                    for bits in all_bits(size, way)[::7]:
                        shelf = Shelf(size, way, slots, bits)
                        self.assertEqual((shelf.size(), shelf.way(), shelf.lay()), (size, way, (slots, bits)))
                        self.assertEqual(shelf, Shelf(slots=slots, bits=bits, size=size, way=way))
        self.assertEqual(Shelf(2, "tree", bits=(1,)).lay(), ((-1, -1), (1,)))
        self.assertEqual(Shelf(2, "tree", (4, 5)).lay(), ((4, 5), (0,)))
        self.assertEqual(Shelf(way="first").size(), 4)
        self.assertEqual(Shelf(3).way(), "last")
        self.assertEqual(Shelf(2, "last", (0, 99)).lay(), ((0, 99), ()))

    def check_part(self, part, *told, **more):
        with self.subTest(shown((told, more))), self.assertRaises(NoShelf) as caught:
            Shelf(*told, **more)
        self.assertEqual(caught.exception.part, part)
        self.assertIsInstance(caught.exception, HandError)

    def test_no_way(self):
        for way in [0, "Last", "last ", "trees", "lasttree", *odd_things(), *odd_lists()]:
            if isinstance(way, str) and way == "last":
                continue
            self.check_part("way", 4, way)
            self.check_part("way", way=way)
            self.check_part("way", 0, way, 5, 5)

    def test_no_size(self):
        for way in WAYS:
            for size in [0, 9, -1, 10, 10 ** 50, *odd_things(), *odd_lists()]:
                self.check_part("size", size, way)
                self.check_part("size", size, way, Angry(), Angry())
        for size in (3, 5, 6, 7):
            self.check_part("size", size, "tree")
            self.check_part("size", size, "tree", (-1,) * size, (0,) * (size - 1))

    def test_no_slots(self):
        for slots in [(), (1,), (1, 2, 3), [1, 2], (1, 1), (-2, 1), (1, 100), (True, 2), (False, -1), (0, False),
                      (None, None), "12", {1: 2, 2: 1}, 0, ((1, 2), ()), ((1,), (2,)),
                      (Angry(), 1), *odd_things()[1:], *odd_lists()]:
            for way in WAYS:
                self.check_part("slots", 2, way, slots)
                self.check_part("slots", 2, way, slots, Angry())
        self.check_part("slots", size=1, slots=())
        self.check_part("slots", size=8, slots=(-1,) * 9)

    def test_no_bits(self):
        for bits in [(), (0, 0), (0, 0, 0, 0), [0, 0, 0], (0, 0, 2), (0, -1, 0), (0, 0, False), (True, 0, 0),
                     (0, 0, None), "000", 0, (Angry(), 0, 0), *odd_things()[1:], *odd_lists()]:
            self.check_part("bits", 4, "tree", (1, 2, 3, 4), bits)
            self.check_part("bits", 4, "tree", None, bits)
            self.check_part("bits", 4, "tree", bits=bits)
        for bits in [(0,), (1,), (0, 0, 0), [], "", 0, False]:
            for way in ("last", "first"):
                self.check_part("bits", 4, way, None, bits)
        self.check_part("bits", 1, "tree", None, (0,))


class TestAsked(unittest.TestCase):

    def test_asks_one_behind_the_other(self):
        chance = random.Random(6)
        for way in WAYS:
            for size in SIZES[way]:
                for slots in some_slots(size)[:6]:
                    bits = chance.choice(all_bits(size, way))
                    self.go_on(Shelf(size, way, slots, bits), (slots, bits), way, chance)

    def go_on(self, shelf, lay, way, chance):
        near = far = 0
        for _ in range(60):
            room = chance.choice([slot for slot in lay[0] if slot != -1] + [chance.randrange(len(lay[0]) + 3)])
            self.assertIs(shelf.holds(room), room in lay[0])
            lay, was = told_lay(lay, room, way)
            self.assertIs(shelf.ask(room), was)
            near, far = near + was, far + (not was)
            self.assertEqual(shelf.lay(), lay)
            self.assertEqual(shelf.counts(), (near, far))
            self.assertEqual((shelf.size(), shelf.way()), (len(lay[0]), way))
            self.assertIs(shelf.holds(room), True)
            self.assertEqual(len(shelf), len([slot for slot in lay[0] if slot != -1]))

    def test_the_edges_are_rooms(self):
        shelf = Shelf(2)
        self.assertEqual([shelf.ask(0), shelf.ask(99), shelf.ask(room=0)], [False, False, True])
        self.assertEqual(shelf.lay(), ((0, 99), ()))

    def test_no_room(self):
        for way in WAYS:
            shelf = Shelf(4, way, (0, 1, -1, 99))
            shelf.ask(1)
            shelf.ask(2)
            before = all_of(shelf)
            for thing in [-1, 100, -2, 10 ** 50, *odd_things(), *odd_lists()]:
                with self.subTest(shown(thing)):
                    with self.assertRaises(NoRoom) as caught:
                        shelf.ask(thing)
                    self.assertIs(caught.exception.room, thing)
                    self.assertNotIsInstance(caught.exception, HandError)
                    self.assertEqual(all_of(shelf), before)


class TestTold(unittest.TestCase):

    def test_holds(self):
        shelf = Shelf(4, "first", (1, 0, -1, 99))
        for thing in range(100):
            self.assertIs(shelf.holds(thing), thing in (0, 1, 99))
        for thing in [-1, 100, (1, 0, -1, 99), [1], *odd_things(), *odd_lists()]:
            with self.subTest(shown(thing)):
                self.assertIs(shelf.holds(thing), False)
        self.assertIs(shelf.holds(thing=99), True)
        self.assertEqual(shelf.counts(), (0, 0))
        self.assertEqual(shelf.lay(), ((1, 0, -1, 99), ()))
        self.assertIs(Shelf().holds(-1), False)

    def test_len_and_truth(self):
        for size in range(1, 9):
            for slots in some_slots(size):
                shelf = Shelf(size, "last", slots)
                many = size - slots.count(-1)
                self.assertEqual(len(shelf), many)
                self.assertIs(bool(shelf), many > 0)

    def test_str(self):
        self.assertEqual(str(Shelf(4, "last", (7, 3, -1, -1))), "7 3 - -")
        self.assertEqual(str(Shelf(4, "tree", (-1, 0, -1, 99))), "- 0 - 99")
        self.assertEqual(str(Shelf(1)), "-")
        self.assertEqual(str(Shelf(1, "first", (10,))), "10")
        self.assertEqual(str(Shelf(8)), "- - - - - - - -")

    def test_repr(self):
        self.assertEqual(repr(Shelf(4, "last", (7, 3, -1, -1))), "Shelf(4, 'last', (7, 3, -1, -1), ())")
        self.assertEqual(repr(Shelf(2, "tree", (7, -1), (1,))), "Shelf(2, 'tree', (7, -1), (1,))")
        self.assertEqual(repr(Shelf(1, "first", (7,))), "Shelf(1, 'first', (7,), ())")

    def test_what_is_told_twice_is_alike(self):
        shelf = Shelf(4, "tree", (1, 2, -1, 3), (0, 1, 1))
        self.assertEqual(all_of(shelf), all_of(shelf))

    def test_lay_stays_as_it_was_told(self):
        shelf = Shelf(4, "tree", (1, 2, -1, 3), (0, 1, 1))
        told = shelf.lay()
        counts = shelf.counts()
        shelf.ask(9)
        self.assertEqual(told, ((1, 2, -1, 3), (0, 1, 1)))
        self.assertEqual(counts, (0, 0))
        self.assertIsInstance(told, tuple)
        self.assertIsInstance(shelf.counts(), tuple)


class TestEqual(unittest.TestCase):

    def test_by_size_way_and_lay(self):
        self.assertTrue(Shelf() == Shelf())
        self.assertFalse(Shelf() != Shelf())
        self.assertFalse(Shelf(4) == Shelf(5))
        self.assertFalse(Shelf(4, "last") == Shelf(4, "first"))
        self.assertFalse(Shelf(1, "tree") == Shelf(1, "last"))
        self.assertFalse(Shelf(2, "last", (1, 2)) == Shelf(2, "last", (2, 1)))
        self.assertFalse(Shelf(2, "last", (1, -1)) == Shelf(2, "last", (-1, 1)))
        self.assertFalse(Shelf(2, "tree", (1, 2), (0,)) == Shelf(2, "tree", (1, 2), (1,)))
        self.assertTrue(Shelf(2, "tree", (1, 2), (1,)) != Shelf(2, "tree", (1, 2), (0,)))

    def test_as_they_are_now_whatever_the_counts(self):
        one, other = Shelf(2, "last", (1, 2)), Shelf(2)
        self.assertFalse(one == other)
        other.ask(2)
        other.ask(1)
        self.assertTrue(one == other)
        self.assertNotEqual(one.counts(), other.counts())
        other.ask(2)
        self.assertFalse(one == other)

    def test_nothing_else(self):
        shelf = Shelf(2, "last", (1, 2))
        for thing in [(2, "last", (1, 2), ()), ((1, 2), ()), "1 2", repr(shelf), 2, mock.ANY,
                      *odd_things(), *odd_lists()]:
            with self.subTest(shown(thing)):
                self.assertIs(shelf == thing, False)
                self.assertIs(shelf.__eq__(thing), False)


class TestTwin(unittest.TestCase):

    def test_the_same_and_by_itself(self):
        for way in WAYS:
            shelf = Shelf(4, way, (1, 2, -1, 3))
            for room in (1, 5, 5, 6):
                shelf.ask(room)
            before = all_of(shelf)
            twin = shelf.twin()
            self.assertIsInstance(twin, Shelf)
            self.assertIsNot(twin, shelf)
            self.assertEqual(all_of(twin), before)
            self.assertEqual(twin, shelf)
            twin.ask(40)
            twin.ask(41)
            self.assertEqual(all_of(shelf), before)
            self.assertNotEqual(all_of(twin), before)
            behind = all_of(twin)
            shelf.ask(6)
            self.assertEqual(all_of(twin), behind)
            self.assertEqual(shelf.counts(), (before[3][0] + 1, before[3][1]))
            self.assertEqual(twin.counts(), (before[3][0], before[3][1] + 2))


if __name__ == "__main__":
    unittest.main()
