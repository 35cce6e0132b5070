"""Point [21]: greater shelves."""

import copy
import random
import unittest

from surehand.errors import HandError, NoShelf, NoWeb, TooMany
from surehand.greater import greater, lets_greater
from surehand.runs import along, is_run
from surehand.shelves import Shelf
from surehand.ways import asked, is_lay
from tests.helper import (Angry, SIZES, WAYS, WEBS, chance_run, line, no_bits, odd_lists, odd_things, rooms_of_web,
                          shown, some_webs, told_pairs, unlike_sizes)

# By `first` three slots have more of these at hand than four.
KNOWN = [1, 2, 3, 4, 1, 2, 5, 1, 2, 3, 4, 5]
LINE = line([(room,) for room in KNOWN])
# By `tree` four slots have the last of these at hand, eight have not.
KNOWN_BY_TREE = [4, 1, 2, 1, 0, 4, 3, 2, 3, 3, 5, 0]
LINE_BY_TREE = line([(room,) for room in KNOWN_BY_TREE])
# A ring in which each of five rooms may be asked for.
RING = [((1, 2, 3, 4, 5), (0,))]
# Row 1 leads to itself; no run comes to rows 3 and 4, which lead to one another.
WEB = [((1,), (1,)), ((2,), (1, 2)), ((1,), ()), ((1, 2), (2, 4)), ((), (3,))]


def losses(run, lesser, size, way):
    """The numbers of the steps at which a greater Shelf loses."""
    small, great = Shelf(lesser, way), Shelf(size, way)
    found = []
    for number, (_, room) in enumerate(run):
        if room is not None:
            at_hand = (small.ask(room), great.ask(room))
            found.extend([number] if at_hand == (True, False) else [])
    return found


def is_table(web, table, lesser, size, way):
    """Whether lists of pairs of lays of the web are a table of pairs, word by word as the point tells it."""
    if (no_bits(lesser, way), no_bits(size, way)) not in table[0]:
        return False
    known = [set(pairs) for pairs in table]
    for (rooms, tos), pairs in zip(web, table):
        if len(set(pairs)) != len(pairs):
            return False
        for lay, other in pairs:
            if any(room in lay[0] and room not in other[0] for room in rooms):
                return False
            behind = [(asked(lay, room, way)[0], asked(other, room, way)[0]) for room in rooms] or [(lay, other)]
            if any(pair not in known[to] for pair in behind for to in tos):
                return False
    return True


class GreaterCase(unittest.TestCase):

    def check_answer(self, web, lesser, size, way):
        """The answer, or the refusal, is the one that is due; tell its word."""
        must = told_pairs(web, lesser, size, way, 5000)
        if must is None:
            self.assertRaises(TooMany, greater, web, lesser, size, way)
            return "many"
        told = greater(web, lesser, size, way)
        self.assertIsInstance(told, tuple)
        self.assertEqual(len(told), 2)
        lost = any(room in lay[0] and room not in other[0]
                   for (rooms, _), pairs in zip(web, must) for lay, other in pairs for room in rooms)
        self.assertEqual(told[0], "loses" if lost else "keeps", (web, lesser, size, way))
        if lost:
            self.assertIs(is_run(web, told[1]), True)
            self.assertEqual(losses(told[1], lesser, size, way)[-1:], [len(told[1]) - 1])
        else:
            self.check_table(web, lesser, size, way, told[1], must)
        self.assertIs(lets_greater(web, lesser, size, told, way), True)
        return told[0]

    def check_table(self, web, lesser, size, way, table, must):
        rooms = rooms_of_web(web) + [-1]
        self.assertIs(is_table(web, table, lesser, size, way), True)
        for pairs, due in zip(table, must):
            self.assertIsInstance(pairs, list)
            self.assertLessEqual(due, set(pairs))
            for lay, other in pairs:
                self.assertTrue(is_lay(lay, lesser, way) and is_lay(other, size, way))
                self.assertLessEqual(set(lay[0] + other[0]), set(rooms))


class TestGreater(GreaterCase):

    def test_a_run_that_is_known(self):
        told = greater(LINE, 3, 4)
        self.assertEqual(told, ("loses", list(enumerate(KNOWN))[:8]))
        self.assertEqual(greater(LINE, 3, 4, "first"), told)
        self.assertEqual(greater(way="first", size=4, lesser=3, web=LINE), told)
        self.assertEqual(greater(LINE, 3, 4, "last")[0], "keeps")
        self.assertEqual(losses(list(enumerate(KNOWN)), 3, 4, "first"), [7, 8, 11])
        self.assertEqual(losses(told[1], 3, 4, "first"), [7])
        self.assertEqual(greater(LINE_BY_TREE, 4, 8, "tree"), ("loses", list(enumerate(KNOWN_BY_TREE))))
        self.assertEqual(greater(LINE_BY_TREE[:11] + [((1, 2, 3, 4, 5), ())], 4, 8, "tree")[0], "keeps")

    def test_by_hand(self):
        self.assertEqual(greater([((), ())], 1, 2), ("keeps", [[(((-1,), ()), ((-1, -1), ()))]]))
        self.assertEqual(greater([((), ())], 1, 2, "tree"), ("keeps", [[(((-1,), ()), ((-1, -1), (0,)))]]))
        word, table = greater([((5,), (0, 1)), ((5,), ()), ((5,), ())], 1, 2)
        both, then = (((-1,), ()), ((-1, -1), ())), (((5,), ()), ((5, -1), ()))
        self.assertEqual((word, [sorted(pairs) for pairs in table]), ("keeps", [[both, then], [then], []]))

    def test_rings(self):
        self.assertEqual(self.check_answer(RING, 2, 3, "first"), "loses")
        self.assertEqual(self.check_answer(RING, 3, 4, "first"), "many")
        self.assertEqual(self.check_answer(RING, 4, 5, "first"), "keeps")
        self.assertEqual(self.check_answer(RING, 1, 8, "first"), "keeps")
        self.assertEqual(self.check_answer(RING, 2, 4, "last"), "keeps")
        for lesser in range(1, 5):
            self.assertEqual(self.check_answer(WEB, lesser, 5, "first"), "keeps")

    def test_against_another_reckoning(self):
        chance = random.Random(31)
        words = {way: {"keeps": 0, "loses": 0, "many": 0} for way in WAYS}
        webs = some_webs(chance, 15) + [RING, WEB, LINE, LINE_BY_TREE, [((1, 2, 3, 4), (0,))],
                                        [((1, 2, 3, 4, 5, 6), (0, 1))] * 2]
        for web in webs:
            before = copy.deepcopy(web)
            for way in WAYS:
                for lesser, size in chance.sample(unlike_sizes(way), 4):
                    words[way][self.check_answer(web, lesser, size, way)] += 1
            self.assertEqual(web, before)
        self.assertEqual(words["last"]["loses"], 0)
        self.assertEqual(self.check_answer(LINE_BY_TREE, 4, 8, "tree"), "loses")
        self.assertGreater(min(words["first"].values()), 0)
        self.assertGreater(min(words["tree"]["keeps"], words["tree"]["many"]), 0)

    def test_each_pair_of_sizes(self):
        for web in (LINE, WEBS[6], WEBS[9], WEB):
            for way in WAYS:
                for lesser, size in unlike_sizes(way):
                    self.check_answer(web, lesser, size, way)

    def test_by_last_it_always_keeps(self):
        chance = random.Random(32)
        for web in some_webs(chance, 20):
            for lesser, size in chance.sample(unlike_sizes("last"), 4):
                self.assertIn(self.check_answer(web, lesser, size, "last"), ("keeps", "many"))
                run = chance_run(chance, web, 60)
                self.assertEqual(losses(run, lesser, size, "last"), [])

    def test_what_keeps_keeps_along_runs(self):
        chance = random.Random(33)
        for web in some_webs(chance, 30):
            for way in WAYS:
                lesser, size = chance.choice(unlike_sizes(way))
                if told_pairs(web, lesser, size, way, 5000) and greater(web, lesser, size, way)[0] == "keeps":
                    for _ in range(5):
                        self.assertEqual(losses(chance_run(chance, web, 80), lesser, size, way), [])

    def test_what_is_told_is_the_askers_own(self):
        web = [((), (1,)), ((), (0,)), ((), ())]
        told = greater(web, 1, 2)
        must = copy.deepcopy(told)
        told[1][0].append(4)
        self.assertEqual(told[1][1:], must[1][1:])
        told[1][1].clear()
        told[1].pop()
        self.assertEqual(greater(web, 1, 2), must)
        lost = greater(LINE, 3, 4)
        lost[1].clear()
        self.assertEqual(len(greater(LINE, 3, 4)[1]), 8)


class TestHowMany(GreaterCase):

    def lines(self, ahead, rooms, times, behind):
        """A web with rows that ask for nothing, then rows with so many rooms, then rows that ask for nothing."""
        return line([()] * ahead + [range(rooms)] * times + [()] * behind)

    def test_just_so_many(self):
        for web, lesser, size, way, word in ((self.lines(3, 4, 7, 25), 2, 3, "first", "loses"),
                                             (self.lines(47, 4, 5, 13), 2, 4, "tree", "keeps"),
                                             (self.lines(4, 5, 4, 12), 2, 4, "tree", "keeps")):
            more = line([()] + [rooms for rooms, _ in web])
            self.assertEqual(sum(map(len, told_pairs(web, lesser, size, way, 6000))), 5000)
            self.assertEqual(sum(map(len, told_pairs(more, lesser, size, way, 6000))), 5001)
            self.assertEqual(self.check_answer(web, lesser, size, way), word)
            with self.assertRaises(TooMany) as caught:
                greater(more, lesser, size, way)
            self.assertIsInstance(caught.exception, HandError)

    def test_lost_or_not(self):
        # The greater shelf loses early, but far too many pairs come behind it.
        web = LINE[:8] + line([()] * 8 + [(1, 2, 3, 4, 5, 6)] * 40)[8:]
        web[7] = ((1,), (8,))
        self.assertRaises(TooMany, greater, web, 3, 4)
        run = list(enumerate(KNOWN))[:8]
        self.assertIs(lets_greater(web, 3, 4, ("loses", run)), True)

    def test_the_bound_of_lays_is_not_asked(self):
        web = line([(row % 12,) for row in range(80)])
        self.assertEqual(self.check_answer(web, 7, 8, "first"), "keeps")
        self.assertEqual(self.check_answer(web, 4, 8, "tree"), "keeps")
        self.assertEqual(self.check_answer(web, 4, 8, "last"), "keeps")

    def test_looking_is_never_too_many(self):
        web = [((0, 1, 2, 3, 4, 5), tuple(range(80)))] * 40 + [((6, 7, 8, 9, 10, 11), tuple(range(80)))] * 40
        for way in WAYS:
            self.assertRaises(TooMany, greater, web, 4, 8, way)
            for thing in (None, Angry(), ("keeps", [[] for _ in web]), ("loses", [(0, 1)])):
                self.assertIs(lets_greater(web, 4, 8, thing, way), False)


class TestRefused(unittest.TestCase):

    def askings(self, web, lesser, size, way):
        return [lambda: greater(web, lesser, size, way), lambda: lets_greater(web, lesser, size, Angry(), way),
                lambda: lets_greater(way=way, thing=("keeps", []), size=size, lesser=lesser, web=web)]

    def test_no_web(self):
        for thing in [[], tuple(WEB), [None], *odd_things(), *odd_lists()]:
            for lesser, size, way in ((1, 2, "first"), (2, 1, "first"), (Angry(), Angry(), Angry())):
                for asking in self.askings(thing, lesser, size, way):
                    with self.subTest(shown(thing)):
                        self.assertRaises(NoWeb, asking)

    def no_shelf(self, lesser, size, way, part):
        for web in (WEB, [((0, 1, 2, 3, 4, 5), (0, 1)), ((6, 7, 8, 9, 10, 11), (0, 1))]):
            for asking in self.askings(web, lesser, size, way):
                with self.subTest(shown((lesser, size, way))), self.assertRaises(NoShelf) as caught:
                    asking()
                self.assertEqual(caught.exception.part, part)

    def test_no_way(self):
        for way in [0, "First", "last ", ["last"], ("last",), *odd_things(), *odd_lists()]:
            if not isinstance(way, str) or way not in WAYS:
                for lesser, size in ((1, 2), (2, 1), (0, 9), (Angry(), Angry())):
                    self.no_shelf(lesser, size, way, "way")

    def test_no_size(self):
        for way in WAYS:
            for size in [0, 9, -1, 10 ** 50, "4", (4,), [4], *odd_things(), *odd_lists()]:
                self.no_shelf(size, 2, way, "size")
                self.no_shelf(1, size, way, "size")
                self.no_shelf(size, Angry(), way, "size")
                self.no_shelf(Angry(), size, way, "size")
        for size in (3, 5, 6, 7):
            self.no_shelf(1, size, "tree", "size")
            self.no_shelf(size, 8, "tree", "size")

    def test_not_greater(self):
        for way in WAYS:
            for lesser in SIZES[way]:
                for size in SIZES[way]:
                    if size <= lesser:
                        self.no_shelf(lesser, size, way, "size")


class TestLets(unittest.TestCase):

    def lets(self, thing, must, web=None, lesser=1, size=2, way="first"):
        with self.subTest(shown(thing)):
            self.assertIs(lets_greater(WEB if web is None else web, lesser, size, thing, way), must)

    def test_runs(self):
        run = list(enumerate(KNOWN))
        for many in range(1, 13):
            self.lets(("loses", run[:many]), many in (8, 9, 12), LINE, 3, 4)
            self.lets(("loses", run[:many]), False, LINE, 3, 4, "last")
            self.lets(("loses", run[:many]), False, LINE, 2, 3)
        self.lets(("keeps", run[:8]), False, LINE, 3, 4)
        # The last step asks for nothing, behind one at which the greater shelf loses.
        self.lets(("loses", run[:8] + [(8, None)]), False, LINE[:8] + [((), ())], 3, 4)
        for thing in [run[1:8], tuple(run[:8]), run[:7] + [(7, 2)], run[:7] + [[7, 1]], [list(one) for one in run[:8]],
                      [], None, Angry(), run[:7] + [Angry()], [run[:8]], *odd_things(), *odd_lists()]:
            self.lets(("loses", thing), False, LINE, 3, 4)

    def test_long_runs(self):
        run = [(0, room) for room in KNOWN[:8]]
        rest = [(0, 1)] * 12
        self.lets(("loses", run), True, RING, 3, 4)
        self.lets(("loses", run + rest), False, RING, 3, 4)
        start = [(0, 1)] * 19992
        self.lets(("loses", start + run), True, RING, 3, 4)
        self.lets(("loses", [(0, 1)] + start + run), False, RING, 3, 4)

    def test_forms(self):
        told = greater(WEB, 1, 2)
        self.lets(told, True)
        for thing in [list(told), told[:1], told + (None,), ("keeps ", told[1]), ("loses", told[1]), (told[1], "keeps"),
                      (b"keeps", told[1]), (None, told[1]), (Angry(), told[1]), ("keeps", Angry()), ("keeps", None),
                      ("KEEPS", told[1]), told[1], (), "keeps", {"keeps": told[1]}, ("always", told[1]), (told,),
                      *odd_things(), *odd_lists()]:
            self.lets(thing, False)

    def test_let_by(self):
        word, table = greater(WEB, 1, 2)
        pair = (((2,), ()), ((2, -1), ()))
        self.lets((word, [pairs[::-1] for pairs in table]), True)
        self.assertNotIn(pair, table[2])
        # More pairs than come, also some that no run has, where they are led on.
        self.lets((word, table[:2] + [table[2] + [pair]] + table[3:]), True)
        self.lets((word, table[:4] + [[pair]]), False)
        one, two = (((1,), ()), ((1, 2), ())), (((2,), ()), ((1, 2), ()))
        self.lets((word, table[:2] + [table[2] + [one, two], [one, two], [one, two]]), True)
        self.lets((word, table[:2] + [table[2] + [one, two], [one, two], []]), False)
        self.lets((word, table[:2] + [table[2] + [one, two], [], []]), True)

    def test_what_loses_is_not_let_by(self):
        # Closed, but in row 2, which no run leaves, room 1 lies on the lesser shelf alone.
        word, table = greater(WEB, 1, 2)
        self.lets((word, table[:2] + [table[2] + [(((1,), ()), ((2, -1), ()))]] + table[3:]), False)
        self.lets((word, table[:2] + [table[2] + [(((2,), ()), ((1, -1), ()))]] + table[3:]), True)
        must = told_pairs(LINE, 3, 4, "first", 5000)
        self.lets(("keeps", [sorted(pairs) for pairs in must]), False, LINE, 3, 4)
        self.lets(("keeps", [sorted(pairs) for pairs in must[:7]]), True, LINE[:6] + [((5,), ())], 3, 4)

    def test_without_the_empty_ones(self):
        for way in WAYS:
            word, table = greater(WEB, 1, 2, way)
            both = (no_bits(1, way), no_bits(2, way))
            self.assertIn(both, table[0])
            self.lets((word, [[pair for pair in table[0] if pair != both]] + table[1:]), False, None, 1, 2, way)
            self.lets((word, [[] for _ in table]), False, None, 1, 2, way)
        bits = (((-1,), ()), ((-1, -1), (1,)))
        self.lets(("keeps", [[bits]]), False, [((), ())], 1, 2, "tree")
        self.lets(("keeps", [[bits, (no_bits(1, "tree"), no_bits(2, "tree"))]]), True, [((), ())], 1, 2, "tree")

    def test_a_pair_twice_or_too_few(self):
        for way in WAYS:
            word, table = greater(WEB, 1, 4, way)
            self.lets((word, table), True, None, 1, 4, way)
            for row in range(3):
                for at, pair in enumerate(table[row]):
                    more = table[:row] + [table[row] + [pair]] + table[row + 1:]
                    fewer = table[:row] + [table[row][:at] + table[row][at + 1:]] + table[row + 1:]
                    self.lets((word, more), False, None, 1, 4, way)
                    self.lets((word, fewer), False, None, 1, 4, way)

    def test_no_pairs_of_the_web(self):
        word, table = greater(WEB, 1, 2)
        one, two = ((1,), ()), ((1, 2), ())
        for pair in [(two, one), (one, one), (two, two), (one, two, one), (one,), [one, two], (one, ((1, 3), ())),
                     (((3,), ()), two), (one, ((1, 1), ())), (one, ((1, 2, -1), ())), (one, ((1, 2), (0,))),
                     (((1,), (0,)), two), (one, ([1, 2], ())), (one, ((1, 2), [])), (one, ((True, 2), ())),
                     (((True,), ()), two), (one, None), (None, two), (Angry(), two), (one, Angry()),
                     (((Angry(),), ()), two), ((1,), (1, 2)), *odd_things(), *odd_lists()]:
            for row in range(5):
                for at in (0, len(table[row])):
                    self.lets((word, table[:row] + [table[row][:at] + [pair] + table[row][at:]] + table[row + 1:]),
                              False)
        self.lets((word, table[:2] + [table[2] + [(one, two)]] + table[3:]), True)

    def test_lists(self):
        word, table = greater(WEB, 1, 2)
        for thing in [table[:4], table + [[]], tuple(table), [], [table], {0: table}, *odd_things(), *odd_lists()]:
            self.lets((word, thing), False)
        for row in range(5):
            for one in [tuple(table[row]), set(table[row]), dict.fromkeys(table[row]), *odd_things()]:
                self.lets((word, table[:row] + [one] + table[row + 1:]), False)

    def test_by_chance(self):
        chance = random.Random(34)
        counts = {True: 0, False: 0}
        for web in some_webs(chance, 40):
            way = chance.choice(WAYS)
            lesser, size = 1, 2
            must = told_pairs(web, lesser, size, way, 5000)
            pairs = sorted(set().union(*must))
            for _ in range(8):
                table = [sorted(one) for one in must]
                for _ in range(chance.randint(0, 2)):
                    row, pair = chance.choice(table), chance.choice(pairs)
                    if pair not in row:
                        row.append(pair)
                    elif chance.random() < 0.5:
                        row.remove(pair)
                before = copy.deepcopy(table)
                due = is_table(web, table, lesser, size, way)
                self.assertIs(lets_greater(web, lesser, size, ("keeps", table), way), due)
                self.assertEqual(table, before)
                counts[due] += 1
        self.assertGreater(min(counts.values()), 50)

    def test_the_run_stays_as_it_was(self):
        run = list(enumerate(KNOWN))[:8]
        web = copy.deepcopy(LINE)
        self.lets(("loses", run), True, web, 3, 4)
        self.assertEqual((web, run), (LINE, list(enumerate(KNOWN))[:8]))
        self.assertEqual(along(LINE, run, Shelf(4, "first"))[-1], False)


if __name__ == "__main__":
    unittest.main()
