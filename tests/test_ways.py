"""Points [4] and [5]: rooms, ways, sizes, lays, and what an ask does."""

import random
import unittest

from surehand.ways import asked, is_lay, is_room, is_whole
from tests.helper import (Angry, SIZES, WAYS, all_bits, nested, odd_lists, odd_things, shown, small_lays, some_slots,
                          told_lay)


class TestNumbers(unittest.TestCase):

    def test_whole_numbers(self):
        for thing in (0, 1, -1, 2, 99, 100, 10 ** 59, -10 ** 59):
            with self.subTest(thing):
                self.assertIs(is_whole(thing), True)
        self.assertIs(is_whole(thing=5), True)

    def test_no_whole_numbers(self):
        for thing in odd_things() + odd_lists():
            with self.subTest(shown(thing)):
                self.assertIs(is_whole(thing), False)

    def test_rooms(self):
        for thing in range(100):
            self.assertIs(is_room(thing), True)
        self.assertIs(is_room(thing=0), True)

    def test_no_rooms(self):
        for thing in [-1, 100, -2, 101, 10 ** 50, -10 ** 50, *odd_things(), *odd_lists()]:
            with self.subTest(shown(thing)):
                self.assertIs(is_room(thing), False)


class TestLays(unittest.TestCase):

    def test_lays_of_each_way_and_size(self):
        for way in WAYS:
            for size in SIZES[way]:
                for slots in some_slots(size):
                    for bits in all_bits(size, way)[::5] + all_bits(size, way)[-1:]:
                        with self.subTest(way=way, slots=slots, bits=bits):
                            self.assertIs(is_lay((slots, bits), size, way), True)

    def test_by_names(self):
        self.assertIs(is_lay(way="tree", size=2, thing=((5, -1), (1,))), True)
        self.assertIs(is_lay(way="last", size=2, thing=((5, -1), (1,))), False)

    def test_a_lay_is_of_its_own_size_alone(self):
        for way in WAYS:
            for size in SIZES[way]:
                lay = ((-1,) * size, all_bits(size, way)[0])
                for other in range(-1, 11):
                    with self.subTest(way=way, size=size, other=other):
                        self.assertIs(is_lay(lay, other, way), other == size)

    def test_no_such_size(self):
        for way in WAYS:
            for size in (0, 9, 10, 16, -1, -4):
                bits = (0,) * max(size - 1, 0) if way == "tree" else ()
                self.assertIs(is_lay(((-1,) * max(size, 0), bits), size, way), False)
        for size in (3, 5, 6, 7):
            self.assertIs(is_lay(((-1,) * size, (0,) * (size - 1)), size, "tree"), False)
            self.assertIs(is_lay(((-1,) * size, ()), size, "tree"), False)
            self.assertIs(is_lay(((-1,) * size, ()), size, "first"), True)

    def test_odd_sizes(self):
        for size in [10 ** 50, *odd_things(), *odd_lists()]:
            with self.subTest(shown(size)):
                self.assertIs(is_lay(((-1,), ()), size, "last"), False)
                self.assertIs(is_lay(((-1,), ()), size, "tree"), False)
                self.assertIs(is_lay(((), ()), size, "first"), False)

    def test_odd_ways(self):
        for way in [0, 1, "Last", "last ", "FIRST", "trees", "lastfirst", *odd_things(), *odd_lists()]:
            if isinstance(way, str) and way == "last":
                continue
            with self.subTest(shown(way)):
                self.assertIs(is_lay(((-1,), ()), 1, way), False)

    def test_rooms_at_the_edges(self):
        for way in ("last", "first"):
            self.assertIs(is_lay(((0, 99), ()), 2, way), True)
            self.assertIs(is_lay(((-1, -1), ()), 2, way), True)
            for slot in [-2, 100, 10 ** 40, *odd_things(), *odd_lists()]:
                with self.subTest(shown(slot)):
                    self.assertIs(is_lay(((slot, 5), ()), 2, way), False)
                    self.assertIs(is_lay(((5, slot), ()), 2, way), False)

    def test_a_room_in_two_slots(self):
        for size in range(2, 9):
            for one in range(size):
                for other in range(one):
                    slots = list(range(40, 40 + size))
                    slots[one] = slots[other]
                    self.assertIs(is_lay((tuple(slots), ()), size, "last"), False)
                    empty = [-1] * size
                    empty[one] = empty[other] = 0
                    self.assertIs(is_lay((tuple(empty), ()), size, "first"), False)

    def test_a_slot_too_few_or_too_many(self):
        for way in WAYS:
            for size in SIZES[way]:
                bits = all_bits(size, way)[0]
                self.assertIs(is_lay(((-1,) * (size - 1), bits), size, way), False)
                self.assertIs(is_lay(((-1,) * (size + 1), bits), size, way), False)

    def test_a_bit_too_few_or_too_many(self):
        for size in (2, 4, 8):
            slots = (-1,) * size
            self.assertIs(is_lay((slots, (0,) * (size - 2)), size, "tree"), False)
            self.assertIs(is_lay((slots, (0,) * size), size, "tree"), False)
            self.assertIs(is_lay((slots, (0,) * (size - 1)), size, "last"), False)
            self.assertIs(is_lay((slots, (0,)), size, "first"), False)
            self.assertIs(is_lay((slots, ()), size, "tree"), False)
        self.assertIs(is_lay(((-1,), (0,)), 1, "tree"), False)

    def test_odd_bits(self):
        for bit in [-1, 2, 10 ** 40, *odd_things(), *odd_lists()]:
            with self.subTest(shown(bit)):
                self.assertIs(is_lay(((5, 6), (bit,)), 2, "tree"), False)
                self.assertIs(is_lay(((5, 6, 7, 8), (0, 1, bit)), 4, "tree"), False)

    def test_no_lays(self):
        slots = (5, 6)
        for thing in [slots, (slots,), (slots, (), ()), [slots, ()], (list(slots), ()), (slots, []), (slots, None),
                      (None, ()), ("56", ()), (slots, ""), {0: slots, 1: ()}, (), 5, ((), ()), ({5: 0, 6: 1}, ()),
                      (slots, {}), (Angry(), ()), (slots, Angry()), *odd_things(), *odd_lists()]:
            with self.subTest(shown(thing)):
                self.assertIs(is_lay(thing, 2, "last"), False)
        self.assertIs(is_lay((slots, [1]), 2, "tree"), False)
        self.assertIs(is_lay(([5, 6], (1,)), 2, "tree"), False)
        self.assertIs(is_lay(nested(3000, lambda inner: (inner, ()), slots), 2, "last"), False)


class TestAsked(unittest.TestCase):

    def test_last_by_hand(self):
        self.assertEqual(asked(((7, 3, 5, -1), ()), 5, "last"), (((5, 7, 3, -1), ()), True))
        self.assertEqual(asked(((7, 3, 5, -1), ()), 7, "last"), (((7, 3, 5, -1), ()), True))
        self.assertEqual(asked(((7, 3, 5, -1), ()), 9, "last"), (((9, 7, 3, 5), ()), False))
        self.assertEqual(asked(((7, -1, 5, 2), ()), 5, "last"), (((5, 7, -1, 2), ()), True))
        self.assertEqual(asked(((-1, 7, -1, 2), ()), 4, "last"), (((4, -1, 7, -1), ()), False))
        self.assertEqual(asked(((8,), ()), 9, "last"), (((9,), ()), False))

    def test_first_by_hand(self):
        self.assertEqual(asked(((7, 3, 5, -1), ()), 5, "first"), (((7, 3, 5, -1), ()), True))
        self.assertEqual(asked(((7, 3, 5, 2), ()), 9, "first"), (((9, 7, 3, 5), ()), False))
        self.assertEqual(asked(((-1, 7, -1, 2), ()), 4, "first"), (((4, -1, 7, -1), ()), False))
        self.assertEqual(asked(((8,), ()), 8, "first"), (((8,), ()), True))

    def test_tree_by_hand(self):
        self.assertEqual(asked(((1, 2, 3, 4), (0, 0, 0)), 9, "tree"), (((9, 2, 3, 4), (1, 1, 0)), False))
        self.assertEqual(asked(((1, 2, 3, 4), (0, 1, 0)), 9, "tree"), (((1, 9, 3, 4), (1, 0, 0)), False))
        self.assertEqual(asked(((1, 2, 3, 4), (1, 1, 0)), 9, "tree"), (((1, 2, 9, 4), (0, 1, 1)), False))
        self.assertEqual(asked(((1, 2, 3, 4), (1, 0, 1)), 9, "tree"), (((1, 2, 3, 9), (0, 0, 0)), False))
        self.assertEqual(asked(((1, 2, 3, 4), (0, 0, 0)), 3, "tree"), (((1, 2, 3, 4), (0, 0, 1)), True))
        self.assertEqual(asked(((1, 2, 3, 4), (0, 0, 1)), 2, "tree"), (((1, 2, 3, 4), (1, 0, 1)), True))
        self.assertEqual(asked(((-1, -1), (1,)), 6, "tree"), (((-1, 6), (0,)), False))
        self.assertEqual(asked(((5,), ()), 6, "tree"), (((6,), ()), False))
        slots = (1, 2, 3, 4, 5, 6, 7, 8)
        self.assertEqual(asked((slots, (1, 0, 0, 0, 0, 1, 0)), 9, "tree"),
                         (((1, 2, 3, 4, 5, 9, 7, 8), (0, 0, 1, 0, 0, 0, 0)), False))
        self.assertEqual(asked((slots, (0, 0, 0, 0, 0, 0, 0)), 4, "tree"),
                         ((slots, (1, 0, 0, 0, 0, 0, 0)), True))

    def test_an_empty_slot_that_is_not_led_to_stays_empty(self):
        self.assertEqual(asked(((1, -1), (0,)), 2, "tree"), (((2, -1), (1,)), False))

    def test_each_way_each_size_each_slot(self):
        for way in WAYS:
            for size in SIZES[way]:
                for slots in some_slots(size):
                    for bits in all_bits(size, way):
                        for room in {slot for slot in slots if slot != -1} | {0, 50, 99}:
                            lay = (slots, bits)
                            self.assertEqual(asked(lay, room, way), told_lay(lay, room, way), (way, lay, room))

    def test_all_small_lays(self):
        for way in WAYS:
            for size in SIZES[way][:3]:
                for lay in small_lays(way, size):
                    for room in (0, 1, 2, 3):
                        self.assertEqual(asked(lay, room, way), told_lay(lay, room, way), (way, lay, room))

    def test_what_is_told_is_a_lay_and_a_truth(self):
        chance = random.Random(4)
        for way in WAYS:
            for size in SIZES[way]:
                lay = ((-1,) * size, all_bits(size, way)[0])
                for _ in range(200):
                    room = chance.randrange(size + 3)
                    told = asked(lay, room, way)
                    self.assertIsInstance(told, tuple)
                    self.assertEqual(len(told), 2)
                    self.assertIs(told[1], room in lay[0])
                    self.assertIs(is_lay(told[0], size, way), True)
                    self.assertEqual(told, told_lay(lay, room, way))
                    self.assertEqual(told, asked(lay, room, way))
                    lay = told[0]

    def test_by_names(self):
        self.assertEqual(asked(way="last", room=3, lay=((7, 3), ())), (((3, 7), ()), True))


if __name__ == "__main__":
    unittest.main()
