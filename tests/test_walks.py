"""Point [12]: walks."""

import random
import unittest

from surehand.errors import HandError, NoBack, NoRoom, NoShelf, NoStep, NoWeb
from surehand.runs import along
from surehand.shelves import Shelf
from surehand.walks import Walk
from tests.helper import (Angry, SIZES, WAYS, all_bits, chance_run, chance_web, odd_lists, odd_things, shown, some_webs,
                          state, told_lay)

WEB = [((1, 5), (1, 2)), ((), (0, 3)), ((1,), (2, 3)), ((0, 99), ()), ((5,), (0, 4))]
BARE_END = [((), (1,)), ((), ())]


def all_of(walk):
    """All that a Walk tells of itself."""
    return (walk.at(), walk.run(), walk.counts(), state(walk.shelf()), len(walk))


def walked(web, shelf, run, last=None):
    """A Walk along a run, to the row last behind it."""
    walk = Walk(web, shelf)
    for (_, room), to in zip(run, [row for row, _ in run[1:]] + [last]):
        walk.step(room, to)
    return walk


class WalkCase(unittest.TestCase):

    def refused(self, walk, error, field, *told, **more):
        """The step is refused, with what was handed in itself in its field, and changes nothing."""
        before = all_of(walk)
        with self.subTest(shown((told, more))):
            with self.assertRaises(error) as caught:
                walk.step(*told, **more)
            self.assertIs({"room": lambda: caught.exception.room, "to": lambda: caught.exception.to}[field](),
                          more[field] if field in more else told[("room", "to").index(field)])
            self.assertNotIsInstance(caught.exception, HandError)
        self.assertEqual(all_of(walk), before)


class TestMade(WalkCase):

    def test_it_stands_at_row_0(self):
        for web in some_webs(random.Random(1), 20):
            self.assertEqual(all_of(Walk(web, Shelf())), (0, [], (0, 0), state(Shelf()), 0))
        self.assertEqual(Walk(shelf=Shelf(2), web=WEB).shelf(), Shelf(2))
        self.assertFalse(Walk(WEB, Shelf()))

    def test_no_web(self):
        for thing in [[], tuple(WEB), WEB[0], WEB + [None], [((), (1,))], *odd_things(), *odd_lists()]:
            for shelf in (Shelf(), None, Angry()):
                with self.subTest(shown(thing)), self.assertRaises(NoWeb):
                    Walk(thing, shelf)
        with self.assertRaises(NoWeb) as caught:
            Walk(WEB + [((), (9,))], None)
        self.assertEqual(caught.exception.row, 5)

    def test_no_shelf(self):
        for thing in [0, 4, ((-1,) * 4, ()), Shelf, WEB, Walk(WEB, Shelf()), "Shelf()", [Shelf()], (Shelf(),),
                      *odd_things(), *odd_lists()]:
            with self.subTest(shown(thing)), self.assertRaises(NoShelf) as caught:
                Walk(WEB, thing)
            self.assertEqual(caught.exception.part, "way")

    def test_it_keeps_a_twin_of_the_shelf(self):
        shelf = Shelf(2, "last", (1, 7))
        shelf.ask(7)
        shelf.ask(8)
        walk = Walk(WEB, shelf)
        before = state(shelf)
        self.assertEqual(state(walk.shelf()), before)
        self.assertEqual(walk.counts(), (0, 0))
        self.assertIs(walk.step(5, 2), False)
        self.assertEqual(state(shelf), before)
        self.assertEqual(walk.counts(), (0, 1))
        self.assertEqual(walk.shelf().counts(), (1, 2))
        shelf.ask(1)
        self.assertIs(walk.step(1, 2), False)
        self.assertEqual(state(walk.shelf()), (2, "last", ((1, 5), ()), (1, 3)))
        walk.undo()
        walk.undo()
        self.assertEqual(state(walk.shelf()), before)
        self.assertEqual(walk.counts(), (0, 0))

    def test_it_keeps_a_copy_of_the_web(self):
        web = list(WEB)
        walk = Walk(web, Shelf())
        web[0] = ((7,), ())
        web.pop()
        self.assertIs(walk.step(1, 2), False)
        web.clear()
        self.assertIs(walk.step(1, 3), True)
        self.assertEqual(walk, walked(WEB, Shelf(), [(0, 1), (2, 1)], 3))


class TestStep(WalkCase):

    def test_by_hand(self):
        walk = Walk(WEB, Shelf(2))
        told = [walk.step(5, 1), walk.step(None, 0), walk.step(to=2, room=5), walk.step(1, 2), walk.step(1, to=3),
                walk.step(99)]
        self.assertEqual(told, [False, None, True, False, True, False])
        self.assertEqual(walk.run(), [(0, 5), (1, None), (0, 5), (2, 1), (2, 1), (3, 99)])
        self.assertEqual((walk.at(), len(walk), walk.counts()), (None, 6, (2, 3)))
        self.assertEqual(walk.shelf(), Shelf(2, "last", (99, 1)))
        walk = Walk(BARE_END, Shelf(1))
        self.assertIsNone(walk.step(to=1))
        self.assertEqual((walk.at(), walk.counts()), (1, (0, 0)))
        self.assertIsNone(walk.step())
        self.assertEqual((walk.at(), walk.run()), (None, [(0, None), (1, None)]))

    def test_each_way_by_chance(self):
        chance = random.Random(2)
        for way in WAYS:
            for size in SIZES[way]:
                for _ in range(6):
                    web = chance_web(chance, 8, range(7), 4)
                    slots = tuple(chance.sample([0, 1, 2, 3, 4, 5, 6, 50, -1], size))
                    self.check(web, chance_run(chance, web, 40), Shelf(size, way, slots,
                                                                       chance.choice(all_bits(size, way))))

    def check(self, web, run, shelf):
        walk, lay, told = Walk(web, shelf), shelf.lay(), []
        for number, (row, room) in enumerate(run):
            self.assertEqual((walk.at(), walk.run()), (row, run[:number]))
            last = number + 1 == len(run)
            tos = web[row][1]
            told.append(walk.step(room, (tos[0] if tos else None) if last else run[number + 1][0]))
            if room is not None:
                lay, near = told_lay(lay, room, shelf.way())
                self.assertIs(told[-1], near)
            self.assertEqual(walk.shelf().lay(), lay)
            self.assertEqual(walk.counts(), (told.count(True), told.count(False)))
            self.assertEqual(len(walk), number + 1)
        self.assertEqual(told, along(web, run, shelf))
        self.assertEqual(walk.run(), run)

    def test_no_room(self):
        walk = Walk(WEB, Shelf())
        for room in [0, 2, 4, 6, 99, -1, 100, (1,), [5], "5", 10 ** 50, *odd_things(), *odd_lists()]:
            self.refused(walk, NoRoom, "room", room, 1)
            self.refused(walk, NoRoom, "room", room, 4)
            self.refused(walk, NoRoom, "room", room, Angry())
            self.refused(walk, NoRoom, "room", to=None, room=room)
        with self.assertRaises(NoRoom) as caught:
            walk.step()
        self.assertIsNone(caught.exception.room)
        walk.step(5, 1)
        for room in [0, 1, 5, -1, 99, *odd_things()[1:], *odd_lists()]:
            self.refused(walk, NoRoom, "room", room, 0)
            self.refused(walk, NoRoom, "room", room, None)
        ones = Walk([((0, 1), (0,))], Shelf())
        for room in (True, False, None):
            self.refused(ones, NoRoom, "room", room, 0)

    def test_no_step(self):
        walk = Walk(WEB, Shelf())
        for to in [0, 3, 4, 5, -1, (1,), [1], "1", 10 ** 50, *odd_things(), *odd_lists()]:
            self.refused(walk, NoStep, "to", 5, to)
            self.refused(walk, NoStep, "to", to=to, room=1)
        with self.assertRaises(NoStep) as caught:
            walk.step(5)
        self.assertIsNone(caught.exception.to)
        walk.step(5, 2)
        self.refused(walk, NoStep, "to", 1, 1)
        walk.step(1, 3)
        for to in [0, 1, 2, 3, 4, -1, *odd_things()[1:], *odd_lists()]:
            self.refused(walk, NoStep, "to", 0, to)
        self.refused(walk, NoRoom, "room", 5, 0)
        self.assertIs(walk.step(0, None), False)
        self.refused(Walk([((), (0, 1)), ((), ())], Shelf()), NoStep, "to", None, True)
        self.refused(Walk([((), (0, 1)), ((), ())], Shelf()), NoStep, "to", None, False)

    def test_a_walk_that_is_over(self):
        walk = walked(WEB, Shelf(), [(0, 5), (2, 1), (3, 0)])
        self.assertIsNone(walk.at())
        for room in [0, 99, None, 1, Angry(), *odd_lists()]:
            for to in [None, 0, 1, 3, Angry(), True]:
                self.refused(walk, NoStep, "to", room, to)
        with self.assertRaises(NoStep) as caught:
            walk.step()
        self.assertIsNone(caught.exception.to)
        self.assertIsNone(walk.undo())
        self.assertEqual((walk.at(), walk.run()), (3, [(0, 5), (2, 1)]))
        self.assertIs(walk.step(99), False)
        self.assertIsNone(walk.at())

    def test_rows_met_again(self):
        walk = Walk([((3,), (0, 1)), ((3,), (0, 1))], Shelf())
        self.assertEqual([walk.step(3, to) for to in (0, 0, 1, 1, 0)], [False, True, True, True, True])
        self.assertEqual(walk.run(), [(0, 3), (0, 3), (0, 3), (1, 3), (1, 3)])
        self.assertEqual((walk.at(), walk.counts()), (0, (4, 1)))

    def test_a_long_walk(self):
        walk = Walk([((1, 2), (0,))], Shelf(1))
        for number in range(20500):
            walk.step(1 + number % 2, 0)
        self.assertEqual((len(walk), len(walk.run()), walk.counts()), (20500, 20500, (0, 20500)))
        for _ in range(20500):
            walk.undo()
        self.assertEqual(all_of(walk), all_of(Walk([((1, 2), (0,))], Shelf(1))))


class TestUndo(WalkCase):

    def test_nothing_to_undo(self):
        walk = Walk(WEB, Shelf())
        for _ in range(2):
            before = all_of(walk)
            with self.assertRaises(NoBack) as caught:
                walk.undo()
            self.assertIsInstance(caught.exception, HandError)
            self.assertEqual(all_of(walk), before)
            walk.step(5, 1)
            walk.undo()

    def test_undone_and_gone_on(self):
        chance = random.Random(3)
        for way in WAYS:
            for size in SIZES[way]:
                for web in some_webs(chance, 3):
                    shelf = Shelf(size, way)
                    shelf.ask(1)
                    self.go_to_and_fro(chance, web, shelf)

    def go_to_and_fro(self, chance, web, shelf):
        walk = Walk(web, shelf)
        past = [all_of(walk)]
        for _ in range(40):
            if walk.at() is None or chance.random() < 0.4:
                if len(past) > 1:
                    self.assertIsNone(walk.undo())
                    past.pop()
                self.assertEqual(all_of(walk), past[-1])
                if walk.at() is None:
                    continue
            rooms, tos = web[walk.at()]
            walk.step(chance.choice(rooms or (None,)), chance.choice(tos or (None,)))
            past.append(all_of(walk))
            if walk.run():
                self.assertEqual(walk.counts(), tuple(along(web, walk.run(), shelf).count(near)
                                                      for near in (True, False)))
        while len(past) > 1:
            self.assertEqual(all_of(walk), past.pop())
            walk.undo()
        self.assertEqual(all_of(walk), past[0])
        self.assertEqual(walk, Walk(web, shelf))


class TestTold(WalkCase):

    def test_what_is_told_is_the_askers_own(self):
        walk = walked(WEB, Shelf(2), [(0, 5), (1, None)], 0)
        before = all_of(walk)
        walk.run().append((0, 5))
        walk.run().clear()
        told = walk.run()
        told[0] = None
        walk.shelf().ask(44)
        shelf = walk.shelf()
        shelf.ask(45)
        self.assertEqual(all_of(walk), before)
        walk.step(5, 2)
        self.assertEqual(walk.run(), [(0, 5), (1, None), (0, 5)])
        self.assertEqual(walk.shelf(), Shelf(2, "last", (5, -1)))
        walk.undo()
        self.assertEqual(all_of(walk), before)
        self.assertEqual(shelf.lay(), ((45, 5), ()))
        run = walk.run()
        walk.undo()
        self.assertEqual(run, [(0, 5), (1, None)])

    def test_a_shelf_behind_an_undo_is_a_twin(self):
        walk = walked(WEB, Shelf(2), [(0, 5), (2, 1)], 2)
        walk.undo()
        walk.shelf().ask(60)
        walk.step(1, 2)
        self.assertEqual(walk.shelf(), Shelf(2, "last", (1, 5)))

    def test_twins(self):
        walk = walked(WEB, Shelf(2, "tree", (5, 1), (1,)), [(0, 5), (2, 1)], 2)
        twin = walk.twin()
        self.assertIsInstance(twin, Walk)
        self.assertEqual(all_of(twin), all_of(walk))
        self.assertEqual(twin, walk)
        before = all_of(walk)
        twin.step(1, 3)
        twin.step(99)
        self.assertEqual(all_of(walk), before)
        self.assertEqual(len(twin), 4)
        for _ in range(4):
            twin.undo()
        self.assertEqual(all_of(twin), all_of(Walk(WEB, Shelf(2, "tree", (5, 1), (1,)))))
        self.assertEqual(all_of(walk), before)
        with self.assertRaises(NoBack):
            twin.undo()
        over = walked(WEB, Shelf(), [(0, 5), (2, 1), (3, 0)]).twin()
        self.assertIsNone(over.at())
        over.undo()
        self.assertEqual((over.at(), over.counts()), (3, (0, 2)))

    def test_a_twin_undone_and_gone_on_otherwise(self):
        walk = walked(WEB, Shelf(2), [(0, 5), (2, 1)], 2)
        twin = walk.twin()
        before = all_of(walk)
        twin.undo()
        twin.undo()
        twin.step(1, 2)
        twin.step(1, 3)
        self.assertEqual(all_of(walk), before)
        walk.undo()
        walk.undo()
        self.assertEqual(all_of(walk), all_of(Walk(WEB, Shelf(2))))
        self.assertEqual(all_of(twin), (3, [(0, 1), (2, 1)], (1, 1), (2, "last", ((1, -1), ()), (1, 1)), 2))

    def test_equal(self):
        run = [(0, 5), (2, 1)]
        walk = walked(WEB, Shelf(2), run, 2)
        self.assertTrue(walk == walked(list(WEB), Shelf(2), run, 2))
        asked = Shelf(2)
        asked.ask(5)
        again = Shelf(2, "last", (5, -1))
        self.assertTrue(Walk(WEB, asked) == Walk(WEB, again))
        self.assertFalse(Walk(WEB, asked) != Walk(WEB, again))
        for other in (walked(WEB, Shelf(2), run, 3), walked(WEB, Shelf(2), [(0, 1), (2, 1)], 2),
                      walked(WEB, Shelf(3), run, 2), walked(WEB, Shelf(2, "first"), run, 2),
                      walked(WEB[:4] + [((5,), (0,))], Shelf(2), run, 2), walked(WEB, Shelf(2), run[:1], 2),
                      walked(WEB + [((), ())], Shelf(2), run, 2), Walk(WEB, Shelf(2))):
            self.assertFalse(walk == other)
            self.assertTrue(walk != other)
        # The slots alone differ, since the first room of one is still there.
        self.assertFalse(walked(WEB, Shelf(3), run, 2) == walked(WEB, Shelf(3, "last", (9, -1, -1)), run, 2))
        # The runs alone differ.
        ring = [((3,), (0,))]
        self.assertFalse(walked(ring, Shelf(), [(0, 3)], 0) == walked(ring, Shelf(), [(0, 3), (0, 3)], 0))
        self.assertFalse(walked(WEB, Shelf(1), [(0, 5), (2, 1)], 2) == walked(WEB, Shelf(1), [(0, 1), (2, 1)], 2))
        undone = walked(WEB, Shelf(2), run, 2)
        undone.step(1, 2)
        undone.undo()
        self.assertTrue(walk == undone)

    def test_equal_to_nothing_else(self):
        walk = Walk(WEB, Shelf())
        for thing in [0, WEB, [], (), Shelf(), walk.run(), *odd_things()]:
            if not isinstance(thing, Angry):
                self.assertFalse(walk == thing)
                self.assertTrue(walk != thing)
        self.assertIs(walk.__eq__(Angry()), False)


if __name__ == "__main__":
    unittest.main()
