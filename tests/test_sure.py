"""Points [16] and [17]: the numbers of asks, and what is sure by last."""

import copy
import random
import unittest

from surehand.errors import HandError, NoRoom, NoShelf, NoWeb
from surehand.greatests import greatest_sets
from surehand.leasts import least_sets
from surehand.runs import along, is_run
from surehand.shelves import Shelf
from surehand.sure import lets_sure, numbers, sure
from surehand.walks import Walk
from tests.helper import (Angry, all_asks, chance_run, chance_web, lays_of_web, odd_lists, odd_things, shown,
                          since_sets, some_webs, told_greatests, told_leasts, told_stands, word_of)

# Room 1 is asked for, then one of three ways to row 4, with no, one or three rooms between; no run comes to row 5.
WEB = [((1,), (1, 2, 4)), ((2,), (4,)), ((2, 3), (3,)), ((4,), (6,)), ((1,), ()), ((1, 7), (4,)), ((5,), (4,))]


def word_by_numbers(told, size):
    """The word by last that comes of an ask's numbers."""
    if told is None:
        return "unmet"
    if told[0] >= size:
        return "never"
    return "always" if told[1] is not None and told[1] < size else "some"


class TestNumbers(unittest.TestCase):

    def test_by_hand(self):
        self.assertEqual(numbers(WEB, 4, 1), (0, 3))
        self.assertEqual(numbers(WEB, 0, 1), (0, None))
        self.assertEqual(numbers(WEB, 3, 4), (2, None))
        self.assertEqual(numbers(WEB, 6, 5), (3, None))
        self.assertIsNone(numbers(WEB, 5, 1))
        self.assertIsNone(numbers(WEB, 5, 7))
        self.assertEqual(numbers(room=2, row=2, web=WEB), (1, None))
        self.assertEqual(numbers([((3,), (0,))], 0, 3), (0, None))
        self.assertEqual(numbers([((3,), (1,)), ((3,), (1,))], 1, 3), (0, 0))
        self.assertEqual(numbers([((3,), (1,)), ((4, 5), (1, 2)), ((3,), ())], 2, 3), (1, 2))
        chain = [((0,), (1,))] + [((room,), (room + 1,)) for room in range(1, 12)] + [((0,), ())]
        self.assertEqual(numbers(chain, 12, 0), (11, 11))
        self.assertEqual(numbers(chain, 11, 11), (11, None))

    def test_against_all_runs(self):
        chance = random.Random(17)
        for web in some_webs(chance, 150):
            before = copy.deepcopy(web)
            for row, room in all_asks(web):
                found = since_sets(web, room)[row]
                must = (min(len(since) for since, _ in found),
                        None if any(new for _, new in found) else max(len(since) for since, _ in found)
                        ) if found else None
                self.assertEqual(numbers(web, row, room), must, (web, row, room))
            self.assertEqual(web, before)

    def test_they_settle_all_sizes(self):
        chance = random.Random(18)
        for web in some_webs(chance, 15):
            for size in range(1, 9):
                if len(lays_of_web(web, size, "last")) < 700:
                    table = told_stands(web, size, "last")
                    for row, room in all_asks(web):
                        word = word_of(table[row], room)
                        self.assertEqual(word_by_numbers(numbers(web, row, room), size), word, (web, row, room, size))
                        self.assertEqual(sure(web, row, room, size)[0], word)


class SureCase(unittest.TestCase):

    def check_answer(self, web, row, room, size, answer):
        """The answer is the one that is due."""
        found = since_sets(web, room)[row]
        sizes = {len(since) for since, _ in found}
        new = any(new for _, new in found)
        if not found:
            self.assertEqual(answer, ("unmet", told_leasts(web, room)))
        elif min(sizes) >= size:
            self.assertEqual(answer, ("never", told_leasts(web, room)))
        elif not new and max(sizes) < size:
            self.assertEqual(answer, ("always", told_greatests(web, room)))
        else:
            self.assertIsInstance(answer, tuple)
            self.assertEqual((answer[0], len(answer)), ("some", 3))
            self.check_run(web, row, room, size, answer[1], True)
            self.check_run(web, row, room, size, answer[2], False)
        self.assertIs(lets_sure(web, row, room, answer, size), True)

    def check_run(self, web, row, room, size, told, near):
        """What is told is a tuple of slots and a run to the ask, walked here step by step."""
        self.assertIsInstance(told, tuple)
        slots, run = told
        self.assertIs(is_run(web, run), True)
        self.assertEqual(run[-1], (row, room))
        walk = Walk(web, Shelf(size, "last", slots))
        for (_, asked), (to, _) in zip(run, run[1:]):
            walk.step(asked, to)
        self.assertEqual(walk.at(), row)
        self.assertIs(walk.shelf().holds(room), near)
        tos = web[row][1]
        self.assertIs(walk.step(room, tos[0] if tos else None), near)


class TestSure(SureCase):

    def test_by_hand(self):
        self.assertEqual(sure(WEB, 5, 7), ("unmet", least_sets(WEB, 7)))
        self.assertEqual(sure(WEB, 4, 1), ("always", greatest_sets(WEB, 1)))
        self.assertEqual(sure(WEB, 4, 1, 4), ("always", greatest_sets(WEB, 1)))
        self.assertEqual(sure(WEB, 4, 1, 8), ("always", greatest_sets(WEB, 1)))
        self.assertEqual([sure(WEB, 4, 1, size)[0] for size in range(1, 5)], ["some", "some", "some", "always"])
        self.assertEqual([sure(WEB, 6, 5, size)[0] for size in range(1, 5)], ["never", "never", "never", "some"])
        self.assertEqual(sure(WEB, 6, 5, size=3), ("never", least_sets(WEB, 5)))
        self.assertEqual(sure(size=1, room=1, row=0, web=[((1,), ())]),
                         ("some", ((1,), [(0, 1)]), ((-1,), [(0, 1)])))

    def test_size_left_out_is_4(self):
        four = [((0,), (1,)), ((1,), (2,)), ((2,), (3,)), ((3,), (4,)), ((4,), (5,)), ((0,), ())]
        three = four[:3] + [((3,), (4,)), ((0,), ())]
        for web, word, size in ((four, "never", 5), (three, "always", 3)):
            row = len(web) - 1
            self.assertEqual(sure(web, row, 0), sure(web, row, 0, 4))
            self.assertEqual(sure(web, row, 0)[0], word)
            self.assertIs(lets_sure(web, row, 0, sure(web, row, 0)), True)
            self.assertNotEqual(sure(web, row, 0, size)[0], word)
            self.assertIs(lets_sure(web, row, 0, sure(web, row, 0, size)), False)

    def test_rooms_asked_in_any_order(self):
        for order in ((3, 2, 1), (2, 3, 1), (1, 3, 2), (3, 1, 2)):
            web = [((9,), (1, 4))] + [((room,), (row + 2,)) for row, room in enumerate(order)] + [((9,), ())]
            for size in (1, 2, 3):
                answer = sure(web, 4, 9, size)
                self.check_answer(web, 4, 9, size, answer)
                self.assertEqual(answer[2][1], [(0, 9)] + [(row + 1, room) for row, room in enumerate(order)] + [(4, 9)])

    def test_sizes_just_at_least_and_most(self):
        for many in range(1, 8):
            # So many rooms and, by another way, two more between the asks for room 50.
            web = ([((50,), (1,))] + [((room,), (room + 1,)) for room in range(1, many)]
                   + [((many,), (many + 1, many + 2)), ((20,), (many + 3,)), ((50,), ()), ((21,), (many + 2,))])
            self.assertEqual(numbers(web, many + 2, 50), (many, many + 2))
            words = [sure(web, many + 2, 50, size)[0] for size in range(1, 9)]
            self.assertEqual(words, (["never"] * many + ["some"] * 2 + ["always"] * 8)[:8])
            for size in range(1, 9):
                self.check_answer(web, many + 2, 50, size, sure(web, many + 2, 50, size))

    def test_each_ask_at_each_size(self):
        chance = random.Random(19)
        words = {}
        for web in some_webs(chance, 40) + [chance_web(chance, 20, range(11), 3) for _ in range(10)]:
            before = copy.deepcopy(web)
            for row, room in all_asks(web):
                for size in range(1, 9):
                    answer = sure(web, row, room, size)
                    self.check_answer(web, row, room, size, answer)
                    words[answer[0]] = words.get(answer[0], 0) + 1
            self.assertEqual(web, before)
        self.assertEqual(sorted(words), ["always", "never", "some", "unmet"])
        self.assertGreater(min(words.values()), 50)

    def test_it_is_so_in_runs_by_chance(self):
        chance = random.Random(20)
        for web in some_webs(chance, 30):
            size = chance.randint(1, 6)
            for _ in range(12):
                run = chance_run(chance, web, 25)
                slots = tuple(chance.sample([0, 1, 2, 3, 4, 50, -1, 51], size))
                told = along(web, run, Shelf(size, "last", slots))
                for (row, room), near in zip(run, told):
                    if room is not None:
                        self.assertIn(sure(web, row, room, size)[0], ("some", "always" if near else "never"))

    def test_far_runs_that_take_long(self):
        # Each of the rooms 1 to 8 lies on a way of its own, of four rows, and all ways lead back to row 1.
        web = [((0,), (1,)), ((), tuple(range(2, 10)) + (79,))]
        web += [((), (10 + room,)) for room in range(1, 9)] + [((), ())]
        web += [((room,), (20 + room,)) for room in range(1, 9)] + [((), ())] * 2
        web += [((), (1,)) for _ in range(1, 9)] + [((), ())] * 50 + [((0,), ())]
        self.assertEqual(len(web), 80)
        self.assertEqual(numbers(web, 79, 0), (0, 8))
        for size in range(1, 9):
            answer = sure(web, 79, 0, size)
            self.assertEqual(answer[0], "some")
            self.check_answer(web, 79, 0, size, answer)
            self.assertGreaterEqual(len(answer[2][1]), 4 * size + 3)

    def test_what_is_told_is_the_askers_own(self):
        for row, room, size in ((4, 1, 8), (5, 7, 4), (6, 5, 2), (4, 1, 2)):
            answer = sure(WEB, row, room, size)
            must = copy.deepcopy(answer)
            if answer[0] == "some":
                answer[1][1].append((0, 1))
                self.assertEqual(answer[2], must[2])
                answer[2][1].clear()
            else:
                for things in answer[1]:
                    things.append((99,))
                answer[1].pop()
            self.assertEqual(sure(WEB, row, room, size), must)


class TestRefused(unittest.TestCase):

    def askings(self, web, row, room, size):
        return [lambda: sure(web, row, room, size), lambda: lets_sure(web, row, room, Angry(), size),
                lambda: lets_sure(web, row, room, ("unmet", []), size=size)]

    def test_no_web(self):
        for thing in [[], tuple(WEB), [None], *odd_things(), *odd_lists()]:
            with self.subTest(shown(thing)):
                for asking in self.askings(thing, Angry(), Angry(), Angry()) + [lambda: numbers(thing, 0, 1)]:
                    self.assertRaises(NoWeb, asking)
        with self.assertRaises(NoWeb) as caught:
            sure(WEB + [((), (70,))], 0, 1)
        self.assertEqual(caught.exception.row, 7)

    def no_room(self, row, room):
        for size in (4, 0, Angry()):
            for asking in self.askings(WEB, row, room, size) + [lambda: numbers(WEB, row, room)]:
                with self.subTest(shown((row, room))), self.assertRaises(NoRoom) as caught:
                    asking()
                self.assertIs(caught.exception.room, room)
                self.assertNotIsInstance(caught.exception, HandError)

    def test_no_room(self):
        for row in [-1, 7, 80, 10 ** 50, (0,), [0], *odd_things(), *odd_lists()]:
            self.no_room(row, 1)
            self.no_room(row, None)
        for room in [0, 2, 7, 99, -1, 100, (1,), [1], *odd_things(), *odd_lists()]:
            self.no_room(0, room)
            self.no_room(Angry(), room)
        self.no_room(False, 1)
        for web in ([((), (0,))], [((0, 1), (0,))]):
            for room in (None, True, False):
                self.assertRaises(NoRoom, sure, web, 0, room)

    def test_no_size(self):
        for size in [0, 9, -1, 10 ** 50, "4", (4,), [4], *odd_things(), *odd_lists()]:
            for row, room in ((0, 1), (5, 7)):
                for asking in self.askings(WEB, row, room, size):
                    with self.subTest(shown(size)), self.assertRaises(NoShelf) as caught:
                        asking()
                    self.assertEqual(caught.exception.part, "size")


class TestLetsSure(SureCase):

    def lets(self, answer, must, row=4, room=1, size=4):
        with self.subTest(shown(answer)):
            self.assertIs(lets_sure(WEB, row, room, answer, size), must)

    def test_words_of_others(self):
        for row, room in all_asks(WEB):
            for size in range(1, 9):
                word, *told = sure(WEB, row, room, size)
                for other in ("unmet", "always", "never", "some", "", "Always", None, 0, b"always", ("always",),
                              Angry()):
                    self.lets((other, *told), isinstance(other, str) and other == word, row, room, size)

    def test_always(self):
        table = greatest_sets(WEB, 1)
        self.assertEqual(table[4], [(2, 4, 5), (3, 4, 5)])
        self.lets(("always", table), True)
        self.lets(("always", table), False, size=3)
        self.lets(("always", table), True, size=8)
        self.lets(("always", table[:4] + [[(2, 3, 4, 5)]] + table[5:]), False)
        self.lets(("always", table[:4] + [[(2, 3, 4, 5)]] + table[5:]), True, size=5)
        self.lets(("always", table[:4] + [[(2,), (2, 4, 5)]] + table[5:]), False)
        self.lets(("always", table[:4] + [[None]] + table[5:]), False)
        self.lets(("always", table[:4] + [[None] + table[4]] + table[5:]), False)
        self.lets(("always", table[:4] + [[]] + table[5:]), False)
        self.lets(("always", table[:4] + [table[4] + [()]] + table[5:]), True)
        self.lets(("always", least_sets(WEB, 1)), False)

    def test_never(self):
        table = least_sets(WEB, 5)
        self.assertEqual(table[6], [(1, 2, 4), (1, 3, 4)])
        self.lets(("never", table), True, 6, 5, 3)
        self.lets(("never", table), True, 6, 5, 1)
        self.lets(("never", table), False, 6, 5, 4)
        self.lets(("never", table[:6] + [[(1, 4)]]), True, 6, 5, 2)
        self.lets(("never", table[:6] + [[(1, 4)]]), False, 6, 5, 3)
        self.lets(("never", table[:6] + [[(1, 2, 4)]]), False, 6, 5, 3)
        self.lets(("never", table[:6] + [[]]), False, 6, 5, 3)
        self.lets(("never", greatest_sets(WEB, 5)), False, 6, 5, 3)

    def test_where_no_run_comes(self):
        least, greatest = least_sets(WEB, 7), greatest_sets(WEB, 7)
        self.lets(("unmet", least), True, 5, 7)
        self.lets(("unmet", greatest), False, 5, 7)
        self.assertEqual((least[5], greatest[5]), ([], []))
        # A list that has something, closed as all must be, is let by though no run comes there.
        greatest[5] = [()]
        greatest[4] = [None]
        self.lets(("always", greatest), True, 5, 7)
        self.lets(("always", greatest), True, 5, 7, 1)
        greatest[5] = [(1, 2)]
        self.lets(("always", greatest), False, 5, 7, 2)
        least[5] = [(1, 2)]
        least[4] = [()]
        self.lets(("never", least), True, 5, 7, 2)
        self.lets(("never", least), False, 5, 7, 3)
        self.lets(("unmet", least), False, 5, 7, 2)
        self.lets(("always", greatest_sets(WEB, 7)), False, 5, 7)
        self.lets(("never", least_sets(WEB, 7)), False, 5, 7)

    def test_unmet_where_runs_come(self):
        for row, room in all_asks(WEB):
            self.lets(("unmet", least_sets(WEB, room)), row == 5, row, room)
        self.lets(("unmet", [[()], [], [], [], [], [], []]), False)

    def test_some(self):
        near, far = [(0, 1), (4, 1)], [(0, 1), (2, 3), (3, 4), (6, 5), (4, 1)]
        slots = (-1, -1)
        good = ("some", (slots, near), (slots, far))
        self.lets(good, True, size=2)
        self.lets(("some", ((50, 2), near), ((9, 1), far)), True, size=2)
        self.lets(("some", (slots, far), (slots, near)), False, size=2)
        self.lets(("some", (slots, near), (slots, near)), False, size=2)
        self.lets(("some", (slots, far), (slots, far)), False, size=2)
        self.lets(good + (None,), False, size=2)
        self.lets(good + ((slots, far),), False, size=2)
        self.lets(good[:2], False, size=2)
        self.lets(list(good), False, size=2)
        self.lets(good, False, size=3)
        self.lets(("some", (slots * 2, near), (slots * 2, far)), False)
        for thing in [(), (slots,), (slots, near, far), [slots, near], (near, slots), {0: slots, 1: near}, near, slots,
                      Angry(), *odd_things(), *odd_lists()]:
            self.lets(("some", thing, (slots, far)), False, size=2)
            self.lets(("some", (slots, near), thing), False, size=2)
        for bad in [(-1,), (-1,) * 3, [-1, -1], (5, 5), (-2, 1), (100, 1), (True, 2), (slots, ()), None, (Angry(),) * 2,
                    *odd_things(), *odd_lists()]:
            self.lets(("some", (bad, near), (slots, far)), False, size=2)
            self.lets(("some", (slots, near), (bad, far)), False, size=2)
        for bad in [[], near[:1], far[:4], tuple(near), tuple(far), near[1:], [(0, 1), (6, 5), (4, 1)],
                    [(0, 1), (4, True)], [(0, 1), [4, 1]], [(0, 1), (4, 1), (4, 1)], [(0, 1), (4, None)], None, Angry(),
                    *odd_things(), *odd_lists()]:
            self.lets(("some", (slots, bad), (slots, far)), False, size=2)
            self.lets(("some", (slots, near), (slots, bad)), False, size=2)

    def test_the_run_ends_with_the_ask(self):
        web = [((1, 2), (0,))]
        good = ("some", ((-1,), [(0, 1), (0, 1)]), ((-1,), [(0, 1)]))
        self.assertIs(lets_sure(web, 0, 1, good, 1), True)
        self.assertIs(lets_sure(web, 0, 2, good, 1), False)
        other = ("some", ((-1,), [(0, 1), (0, 1), (0, 2)]), ((-1,), [(0, 1)]))
        self.assertIs(lets_sure(web, 0, 1, other, 1), False)

    def test_no_answers(self):
        table = greatest_sets(WEB, 1)
        for thing in [(), ("always",), ("always", table, table), ["always", table], ("always", table, None), "always",
                      table, ("some", table), ("some", ((-1,) * 4, [(0, 1)])), (table, "always"), {"always": table},
                      0, ("always", tuple(table)), ("always", table[:6]), ("always", table + [[]]), ("unmet", None),
                      ("never", Angry()), (Angry(), table), ("always", Angry()), *odd_things(), *odd_lists()]:
            self.lets(thing, False)
        for thing in [*odd_things(), *odd_lists()]:
            for word in ("always", "never", "unmet", "some"):
                self.lets((word, thing), False)
                self.lets((word, thing, thing), False)

    def test_what_is_let_by_stays_as_it_was(self):
        for row, room in all_asks(WEB):
            answer = sure(WEB, row, room, 2)
            before = copy.deepcopy(answer)
            lets_sure(WEB, row, room, answer, 2)
            self.assertIs(lets_sure(size=2, thing=answer, room=room, row=row, web=WEB), True)
            self.assertEqual(answer, before)


if __name__ == "__main__":
    unittest.main()
