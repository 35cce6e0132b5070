"""Point [10]: webs of programs."""

import random
import unittest

from surehand.errors import HandError, NoProgram, TooMany
from surehand.making import web_of
from surehand.programs import look_at_program, reach, rooms_of
from surehand.webs import look_at_web, web_rooms
from tests.helper import (Angry, chance_program, lists_of_program, lists_of_web, nested, odd_lists, odd_things,
                          shown)

REST = ("rest",)
ONE, TWO, BOTH = ("ask", (1,)), ("ask", (2,)), ("ask", (1, 2))
TERMS = (
    ONE, REST, BOTH, ("then", (ONE,)), ("then", (ONE, TWO, ("ask", (3, 4)))), ("then", (REST, ONE, REST)),
    ("then", (REST,)), ("fork", (ONE, TWO)), ("fork", (ONE, REST)), ("fork", (REST, REST)), ("fork", (ONE, ONE)),
    ("fork", (ONE, ("then", (ONE, TWO)), ("then", (TWO, ONE)), REST)),
    ("round", 0, 0, ONE), ("round", 0, 0, REST), ("round", 0, 1, ONE), ("round", 2, 2, ONE), ("round", 2, 4, ONE),
    ("round", 0, 12, ONE), ("round", 12, 12, ONE), ("round", 3, 7, REST), ("round", 0, 4, BOTH),
    ("round", 0, None, ONE), ("round", 3, None, ONE), ("round", 0, None, REST), ("round", 2, None, REST),
    ("round", 12, None, REST), ("round", 0, None, ("round", 0, 0, ONE)), ("round", 0, 5, ("round", 0, 0, ONE)),
    ("round", 0, None, ("round", 0, None, ONE)), ("round", 1, None, ("round", 0, None, REST)),
    ("round", 0, None, ("fork", (ONE, REST))), ("round", 1, 3, ("fork", (ONE, TWO, REST))),
    ("round", 1, None, ("fork", (ONE, ("then", (TWO, TWO))))), ("round", 1, 2, ("then", (ONE, ("round", 0, 2, TWO)))),
    ("round", 0, None, ("then", (("round", 0, None, ONE), ("round", 0, None, TWO)))),
    ("round", 2, 3, ("round", 1, 2, ("fork", (ONE, TWO)))), ("round", 2, 3, ("round", 1, None, TWO)),
    ("then", (("round", 0, 0, ONE), TWO)), ("then", (ONE, ("round", 0, 0, ONE))),
    ("fork", (("round", 0, 0, ONE), ("round", 0, 0, TWO))), ("fork", (("round", 0, 0, ONE), TWO)),
    ("then", (("fork", (ONE, REST)), ("fork", (TWO, REST)), ("fork", (ONE, TWO)))),
    ("then", (("round", 0, None, ONE), ("round", 0, None, TWO), ("ask", (3,)))),
)


def has_ring(web):
    """Whether a run of the web may go on without end."""
    left = dict(enumerate(web))
    while left:
        ends = [row for row in left if not any(to in left for to in left[row][1])]
        if not ends:
            return True
        for row in ends:
            del left[row]
    return False


class WebOfCase(unittest.TestCase):

    def check(self, program, longest):
        before = list(program)
        web = web_of(program)
        self.assertIsNone(look_at_web(web))
        self.assertLessEqual(len(web), reach(program) + 1, program)
        self.assertLessEqual(set(web_rooms(web)), set(rooms_of(program)))
        self.assertEqual(lists_of_web(web, longest), lists_of_program(program, longest), program)
        if "None" not in repr(program):
            self.assertFalse(has_ring(web), program)
        self.assertEqual(program, before)
        web[0] = web[-1]
        web.append(5)
        again = web_of(program)
        self.assertIsNone(look_at_web(again))
        self.assertEqual(lists_of_web(again, longest), lists_of_program(program, longest), program)


class TestAlike(WebOfCase):

    def test_by_hand(self):
        self.assertEqual(lists_of_web(web_of([("a", ("then", (("ask", (1, 2)), ("fork", (REST, ("ask", (3,)))))))]), 5),
                         {(1,), (2,), (1, 3), (2, 3)})
        self.assertEqual(lists_of_web(web_of([("a", ("round", 1, None, ("ask", (1,))))]), 3),
                         {(1,), (1, 1), (1, 1, 1)})
        self.assertEqual(lists_of_web(web_of(program=[("a", REST)]), 3), {()})
        self.assertEqual(lists_of_web(web_of([("a", ("round", 2, 3, ("ask", (7,))))]), 5), {(7, 7), (7, 7, 7)})

    def test_each_kind_of_term(self):
        for term in TERMS:
            self.check([("a", term)], 8)
            self.check([("a", ("then", (TWO, term, ("ask", (9,)))))], 7)
            self.check([("a", ("call", "b")), ("b", term)], 6)
            if reach([("a", term)]) < 26:
                self.check([("a", ("round", 0, 2, term))], 5)
                self.check([("a", ("round", 1, None, term))], 5)
                self.check([("a", ("fork", (term, ("ask", (7,)), term)))], 6)

    def test_long_rounds(self):
        self.check([("a", ("round", 0, 12, ("ask", (1,))))], 14)
        self.check([("a", ("round", 12, 12, ("then", (ONE, TWO))))], 26)
        self.check([("a", ("round", 12, None, ("ask", (1,))))], 16)
        self.check([("a", ("round", 3, 12, ("then", (ONE, TWO))))], 26)

    def test_calls(self):
        self.check([("a", ("then", (("call", "b"), ("call", "c"), ("call", "b")))),
                    ("b", ("round", 1, 2, ("call", "c"))), ("c", ("fork", (ONE, TWO)))], 8)
        self.check([("a", ("round", 0, None, ("call", "c"))), ("b", ("ask", (50,))),
                    ("c", ("then", (("call", "d"), ("call", "d")))), ("d", ("fork", (ONE, ("ask", (2,)))))], 6)
        self.check([("a", REST), ("b", ONE)], 4)

    def test_by_chance(self):
        chance, looked_at = random.Random(10), 0
        while looked_at < 400:
            program = chance_program(chance)
            self.assertIsNone(look_at_program(program))
            if reach(program) > 79:
                with self.assertRaises(TooMany):
                    web_of(program)
                continue
            self.check(program, 5)
            looked_at += 1

    def test_nothing_is_asked(self):
        for term in (("round", 0, 0, ONE), ("then", (("round", 0, 0, ONE),) * 8)):
            self.assertEqual(reach([("a", term)]), 0)
            self.assertEqual(web_of([("a", term)]), [((), ())])

    def test_much_of_nothing(self):
        wide = [(name, nested(5, lambda inner: ("then", (inner,) * 8), ("call", chr(ord(name) + 1))))
                for name in "abcdefg"]
        program = wide + [("h", ("round", 0, 0, ONE))]
        self.assertEqual(web_of(program), [((), ())])
        web = web_of([("z", ("then", (ONE, ("call", "b"), TWO)))] + program[1:])
        self.assertLessEqual(len(web), 3)
        self.assertEqual(lists_of_web(web, 4), {(1, 2)})


class TestRefused(WebOfCase):

    def refused(self, program):
        with self.subTest(program=program), self.assertRaises(TooMany) as caught:
            web_of(program)
        self.assertIsInstance(caught.exception, HandError)

    def test_reach(self):
        ten = (("then", (ONE, TWO) * 4), ("then", (ONE, TWO)))
        for term, many in ((("then", (("round", 6, 6, ("then", ten)), ("round", 12, 12, ONE), ("then", (ONE,) * 7))), 79),
                           (("then", (("round", 6, 6, ("then", ten)), ("round", 12, 12, ONE), ("then", (ONE,) * 8))), 80),
                           (("round", 0, 8, ("then", (ONE,) * 8)), 72), (("round", 8, 12, ("then", (ONE,) * 6)), 76),
                           (("round", 4, 12, ("then", (ONE,) * 6)), 80), (("round", 5, 12, ("then", (ONE,) * 6)), 79),
                           (("round", 12, None, ("then", (ONE,) * 6)), 79),
                           (("round", 12, None, ("fork", (ONE,) * 5)), 79), (("round", 12, None, ("fork", (ONE,) * 6)), 92),
                           (("round", 9, None, ("then", (ONE,) * 8)), 81)):
            self.assertEqual(reach([("a", term)]), many)
            if many > 79:
                self.refused([("a", term)])
                self.refused([("b", ("call", "a")), ("a", term)])
                self.assertLessEqual(len(web_of([("b", ONE), ("a", term)])), 2)
            else:
                self.check([("a", term)], 4)

    def test_reach_and_not_the_rows_that_come(self):
        self.refused([("a", ("round", 12, 12, ("then", (REST,) * 8)))])
        self.refused([("a", ("round", 10, 10, ("then", (REST,) * 8)))])
        self.check([("a", ("then", (("round", 9, 9, ("then", (REST,) * 8)), ("then", (REST,) * 7))))], 3)
        self.refused([("a", ("round", 12, 12, ("fork", (REST,) * 6)))])
        self.refused([("a", nested(5, lambda inner: ("round", 12, 12, inner), ("call", "b"))),
                      ("b", nested(5, lambda inner: ("round", 12, 12, inner), REST))])

    def test_rooms(self):
        twelve = ("then", (("ask", (0, 1, 2, 3, 4, 5)), ("ask", (50, 51, 52, 53, 98, 99))))
        self.check([("a", twelve)], 3)
        self.check([("a", twelve), ("b", twelve), ("c", ("ask", (99,)))], 3)
        self.check([("a", ONE), ("b", twelve)], 3)
        self.refused([("a", ("then", (twelve, ("ask", (6,)))))])
        self.refused([("a", twelve), ("b", ("ask", (6,)))])
        self.refused([("a", ("ask", (6,))), ("b", twelve)])
        self.refused([("a", REST), ("b", ("then", (twelve, ("round", 0, 0, ("ask", (6,)))))), ("c", REST)])
        self.refused([("a", ("then", (twelve, ("round", 0, 0, ("ask", (6,))))))])

    def test_no_program(self):
        many = ("round", 12, 12, ("then", (ONE,) * 8))
        for thing, number in [(tuple(), None), ([], None), ([("a", REST)] * 9, None), ([("a", many), None], 1),
                              ([("a", ("call", "a"))], 0), ([("a", many), ("b", ("call", "a"))], 1),
                              ([("a", many), ("a", many)], 1), ([("a", nested(6, lambda one: ("then", (one,)), ONE))], 0),
                              (("a", REST), None), ([("a", REST), Angry()], 1)]:
            self.no_program(thing, number)
        for thing in odd_things():
            self.no_program(thing, None)
        for thing in odd_lists():
            self.no_program(thing, 0 if isinstance(thing, list) else None)

    def no_program(self, thing, number):
        with self.subTest(shown(thing)):
            with self.assertRaises(NoProgram) as caught:
                web_of(thing)
            self.assertEqual(caught.exception.number, number)


if __name__ == "__main__":
    unittest.main()
