"""Points [7] and [8]: programs, their reach and their rooms."""

import copy
import unittest

from surehand.errors import HandError, NoProgram
from surehand.programs import look_at_program, reach, rooms_of
from tests.helper import Angry, nested, odd_lists, odd_things, shown

REST = ("rest",)
ASK = ("ask", (1,))
EVERY_WORD = [
    ("main", ("then", (("ask", (0, 5, 99)), ("fork", (("rest",), ("call", "b"), ("call", "cccccc"))),
                       ("round", 1, 3, ("call", "b"))))),
    ("b", ("round", 2, None, ("then", (("ask", (7,)), ("call", "cccccc"))))),
    ("cccccc", ("fork", (("ask", (1, 2, 3, 4, 5, 6)), ("rest",)))),
]


def of(term):
    """A program of this one term."""
    return [("a", term)]


def deep(times, inner=REST):
    """A term with so many terms around it."""
    return nested(times, lambda within: ("then", (within,)), inner)


def spots(thing, path=()):
    """The paths to all places in a list or tuple, also within."""
    found = []
    if isinstance(thing, (list, tuple)):
        for number, one in enumerate(thing):
            found.append(path + (number,))
            found.extend(spots(one, path + (number,)))
    return found


def replaced(thing, path, new):
    """The same with something else at a place."""
    if not path:
        return new
    parts = list(thing)
    parts[path[0]] = replaced(parts[path[0]], path[1:], new)
    return parts if isinstance(thing, list) else tuple(parts)


def at(thing, path):
    """What stands at a place."""
    for number in path:
        thing = thing[number]
    return thing


class ProgramCase(unittest.TestCase):

    def let_by(self, program):
        before = copy.deepcopy(program)
        self.assertIsNone(look_at_program(program), program)
        self.assertEqual(program, before)

    def refused(self, thing, number):
        with self.subTest(shown(thing)):
            with self.assertRaises(NoProgram) as caught:
                look_at_program(thing)
            self.assertEqual(caught.exception.number, number)
            self.assertIsInstance(caught.exception, HandError)


class TestLook(ProgramCase):

    def test_each_word(self):
        self.let_by(EVERY_WORD)
        for term in (ASK, REST, ("then", (ASK,)), ("then", (ASK,) * 8), ("fork", (ASK, REST)), ("fork", (ASK,) * 6),
                     ("round", 0, 0, ASK), ("round", 3, 5, REST), ("round", 4, None, ASK), ("then", (REST,))):
            self.let_by(of(term))
        self.assertIsNone(look_at_program(thing=EVERY_WORD))

    def test_no_list(self):
        for thing in [tuple(EVERY_WORD), EVERY_WORD[0], (), 0, 7, REST, ASK, "a rest", {"a": REST}, {0: ("a", REST)},
                      *odd_things(), nested(3000, lambda inner: (inner,), [])]:
            self.refused(thing, None)

    def test_how_many_tuples(self):
        named = [(name, REST) for name in "abcdefghij"]
        self.refused([], None)
        self.refused(named[:9], None)
        self.refused(named, None)
        self.refused([None] * 9, None)
        for many in range(1, 9):
            self.let_by(named[:many])

    def test_no_tuples(self):
        for thing in [("a",), ("a", REST, REST), ["a", REST], (), ("a", [REST]), ("a", list(REST)), {"a": REST}, 0,
                      ("a", None), (None, REST), (REST, "a"), *odd_things(), *odd_lists()]:
            self.refused([thing], 0)
            self.refused([("b", REST), thing], 1)
            self.refused([("b", REST), ("c", REST), thing, Angry()], 2)
            self.refused([thing, ("b", REST)], 0)
        ring = []
        ring.append(ring)
        self.refused(ring, 0)

    def test_names(self):
        for name in ("a", "z", "abcdef", "zzzzzz", "rest", "call", "ask"):
            self.let_by([(name, REST)])
        for name in ["", "abcdefg", "A", "aB", "a1", "1", "a b", " a", "a ", "a-b", "a_b", "a\n", "-", "{", "`",
                     b"a", ("a",), ["a"], *odd_things()]:
            if not (isinstance(name, str) and name in ("last", "size")):
                self.refused([(name, REST)], 0)
                self.refused([("b", REST), (name, REST)], 1)
                self.refused([("b", ("call", name)), ("c", REST)], 0)

    def test_names_alike(self):
        self.refused([("a", REST), ("a", REST)], 1)
        self.refused([("a", REST), ("b", REST), ("c", REST), ("b", REST), ("a", REST)], 3)
        self.refused([("a", ("call", "b")), ("b", REST), ("b", ASK)], 2)
        self.let_by([("a", REST), ("aa", REST), ("aaa", REST)])

    def test_asks(self):
        for rooms in ((0,), (99,), (0, 99), (0, 1, 2, 3, 4, 5), (94, 95, 96, 97, 98, 99), (1, 3, 7)):
            self.let_by(of(("ask", rooms)))
        for rooms in [(), (0, 1, 2, 3, 4, 5, 6), (-1,), (100,), (1, 1), (2, 1), (1, 3, 2), (1, 2, 2), (5, 4, 3),
                      (0, 100), (-1, 0), (True,), (False, 1), (0, True), [1], (1, None), ("1",), ((1,),), 1, "1",
                      {1: 1}, (Angry(),), (1, Angry()), *odd_things()]:
            self.refused(of(("ask", rooms)), 0)
        for term in (("ask",), ("ask", (1,), (2,)), ("ask", 1, 2), ["ask", (1,)], ("Ask", (1,)), ("asks", (1,)),
                     (b"ask", (1,)), ("", (1,))):
            self.refused(of(term), 0)

    def test_rests(self):
        for term in ((), ("rest", ()), ("rest", None), ["rest"], "rest", (("rest",),), ("Rest",), ("rests",), ("",),
                     (None,), ("rest", "rest")):
            self.refused(of(term), 0)
            self.refused([("b", REST), ("a", term)], 1)

    def test_thens_and_forks(self):
        for many in range(11):
            terms = (REST,) * many
            for word, least, most in (("then", 1, 8), ("fork", 2, 6)):
                if least <= many <= most:
                    self.let_by(of((word, terms)))
                    for spot in range(many):
                        self.refused(of((word, terms[:spot] + (("rest", 1),) + terms[spot + 1:])), 0)
                        self.refused(of((word, terms[:spot] + (Angry(),) + terms[spot + 1:])), 0)
                else:
                    self.refused(of((word, terms)), 0)
                self.refused(of((word, list(terms))), 0)
                self.refused(of((word, terms, terms)), 0)
                self.refused(of((word, *terms)), 0)
        for word in ("then", "fork"):
            self.refused(of((word,)), 0)
            for thing in odd_things() + [REST, ASK, {0: REST, 1: REST}]:
                self.refused(of((word, thing)), 0)

    def test_rounds(self):
        for least in range(-2, 15):
            for most in range(-2, 15):
                term = ("round", least, most, ASK)
                if 0 <= least <= most <= 12:
                    self.let_by(of(term))
                else:
                    self.refused(of(term), 0)
            if 0 <= least <= 12:
                self.let_by(of(("round", least, None, ASK)))
            else:
                self.refused(of(("round", least, None, ASK)), 0)
        for thing in odd_things() + [(), [], (1,)]:
            self.refused(of(("round", thing, 5, ASK)), 0)
            self.refused(of(("round", thing, None, ASK)), 0)
            self.refused(of(("round", 0, 5, thing)), 0)
            if thing is not None:
                self.refused(of(("round", 0, thing, ASK)), 0)
        for term in (("round", 0, 1), ("round", 0, 1, ASK, ASK), ("round", 0, ASK), ("round", 0, 0, (ASK,)),
                     ("round", 0, 0, ("rest", 1)), ("round", 0, 0, ("call", "b")), ["round", 0, 1, ASK],
                     ("round",), ("round", ASK)):
            self.refused(of(term), 0)

    def test_calls(self):
        self.let_by([("a", ("call", "b")), ("b", ("call", "c")), ("c", REST)])
        self.let_by([("a", ("call", "c")), ("b", REST), ("c", REST)])
        self.refused([("a", ("call", "b"))], 0)
        self.refused([("a", ("call", "a"))], 0)
        self.refused([("a", ("call", "a")), ("b", REST)], 0)
        self.refused([("a", REST), ("b", ("call", "a"))], 1)
        self.refused([("a", REST), ("b", ("call", "b"))], 1)
        self.refused([("a", REST), ("b", ("call", "c"))], 1)
        self.refused([("a", ("call", "c")), ("b", REST)], 0)
        self.refused([("a", ("call", "b")), ("b", ("call", "a"))], 1)
        for term in (("call",), ("call", "b", "b"), ["call", "b"], ("call", ("b",)), ("call", REST)):
            self.refused([("a", term), ("b", REST)], 0)

    def test_calls_anywhere_in_a_term(self):
        for around in (lambda one: ("then", (REST, one)), lambda one: ("then", (one, REST)),
                       lambda one: ("fork", (REST, REST, one)), lambda one: ("fork", (one, REST)),
                       lambda one: ("round", 0, 0, one), lambda one: ("round", 1, None, one), lambda one: one):
            for outer in (lambda one: ("then", (one,)), lambda one: ("round", 2, 2, one), lambda one: one):
                self.let_by([("a", outer(around(("call", "b")))), ("b", REST)])
                self.refused([("a", outer(around(("call", "c")))), ("b", REST)], 0)
                self.refused([("b", REST), ("a", outer(around(("call", "b"))))], 1)

    def test_a_name_behind_whatever_its_second_thing(self):
        for second in (None, "rest", ["rest"], ("rest", 1), ("call", "a"), 0, Angry()):
            self.refused([("a", ("call", "b")), ("b", second)], 1)
            self.refused([("a", ("call", "c")), ("b", REST), ("c", second)], 2)
        self.refused([("a", ("call", "b")), ("b",)], 0)
        self.refused([("a", ("call", "b")), ("b", REST, REST)], 0)
        self.refused([("a", ("call", "b")), ["b", REST]], 0)
        self.refused([("a", ("call", "b")), "b"], 0)
        self.refused([("a", ("call", "b")), "bc", ("bc", REST)], 0)
        self.refused([("a", ("call", "b")), (Angry(), REST), ("b", REST)], 1)
        self.refused([("a", ("call", "b")), ("b", REST), ("b", REST)], 2)
        self.refused([("a", ("call", "a")), ("a", REST)], 1)

    def test_the_first_is_told(self):
        self.refused([("a", REST), None, ("a", REST), ("b", ("call", "z"))], 1)
        self.refused([("a", REST), ("a", REST), None], 1)
        self.refused([("a", ("call", "z")), None], 0)
        self.refused([("a", REST), ("b", ("call", "a")), ("a", REST)], 2)

    def test_depth(self):
        for around in (lambda one: ("then", (one,)), lambda one: ("fork", (REST, one)),
                       lambda one: ("round", 0, 0, one), lambda one: ("round", 1, None, one)):
            for inner in (REST, ASK, ("call", "b")):
                for times in range(10):
                    program = [("a", nested(times, around, inner)), ("b", deep(5))]
                    if times <= 5:
                        self.let_by(program)
                    else:
                        self.refused(program, 0)
        self.refused([("a", REST), ("b", deep(6))], 1)
        for times in (100, 5000, 50000):
            self.refused([("a", REST), ("b", deep(times))], 1)

    def test_a_call_is_one_deep(self):
        self.let_by([("a", deep(5, ("call", "b"))), ("b", deep(5, ("call", "c"))), ("c", deep(5))])

    def test_each_place_replaced(self):
        self.let_by(EVERY_WORD)
        for path in spots(EVERY_WORD):
            for thing in odd_things():
                if thing is None and at(EVERY_WORD, path[:-1])[0] == "round" and path[-1] == 2:
                    continue
                if path == (0, 0) and isinstance(thing, str) and thing.isalpha():
                    continue
                number = path[0]
                if path[0] > 0 and (len(path) == 1 or path[1:] == (0,)):
                    number = 0
                self.refused(replaced(EVERY_WORD, path, thing), number)

    def test_many_terms(self):
        wide = nested(5, lambda inner: ("then", (inner,) * 8), ("call", "h"))
        program = [(name, wide) for name in "abcdefg"] + [("h", nested(5, lambda one: ("then", (one,) * 8), ASK))]
        self.let_by(program)
        self.refused(program[:-1] + [("i", REST)], 0)


class TestReach(unittest.TestCase):

    def test_by_hand(self):
        for term, many in ((ASK, 1), (REST, 1), (("ask", (1, 2, 3)), 1),
                           (("then", (ASK,)), 1), (("then", (ASK, REST, ASK)), 3),
                           (("fork", (ASK, REST)), 3), (("fork", (ASK, ("then", (ASK, ASK)), REST)), 5),
                           (("round", 0, 0, ASK), 0), (("round", 3, 3, ASK), 3), (("round", 0, 3, ASK), 6),
                           (("round", 2, 5, ("then", (ASK, ASK))), 13), (("round", 12, 12, ASK), 12),
                           (("round", 0, 12, ASK), 24), (("round", 0, None, ASK), 2),
                           (("round", 3, None, ("then", (ASK, ASK))), 9), (("round", 12, None, ASK), 14),
                           (("round", 0, 4, ("round", 0, 0, ASK)), 4), (("round", 5, None, ("round", 0, 0, ASK)), 1),
                           (("round", 1, 2, ("fork", (ASK, ASK))), 7),
                           (("round", 2, 2, ("round", 0, None, ("fork", (REST, ASK)))), 8)):
            self.assertEqual(reach(of(term)), many, term)
        self.assertEqual(reach(program=of(ASK)), 1)

    def test_calls(self):
        self.assertEqual(reach([("a", ("call", "b")), ("b", ("then", (ASK,) * 7))]), 7)
        self.assertEqual(reach([("a", ("then", (("call", "b"), ("call", "c"), ("call", "b")))),
                                ("b", ("round", 1, 2, ("call", "c"))), ("c", ("fork", (ASK, ASK)))]), 17)
        self.assertEqual(reach([("a", REST), ("b", ("then", (ASK,) * 7))]), 1)
        # The last term reaches 3, so the one ahead of it 4 * 3 + 1.
        self.assertEqual(reach(EVERY_WORD[2:]), 3)
        self.assertEqual(reach(EVERY_WORD[1:]), 13)
        self.assertEqual(reach(EVERY_WORD), 1 + (1 + 1 + 13 + 3) + (3 * 13 + 2))

    def test_great(self):
        grow = nested(5, lambda inner: ("round", 12, 12, inner), ("call", "b"))
        self.assertEqual(reach([("a", grow), ("b", nested(5, lambda inner: ("round", 12, 12, inner), ASK))]), 12 ** 10)
        wide = [(name, nested(5, lambda inner: ("then", (inner,) * 8), ("call", chr(ord(name) + 1))))
                for name in "abcdefg"]
        self.assertEqual(reach(wide + [("h", ASK)]), 8 ** 35)

    def test_what_is_handed_in_stays(self):
        program = list(EVERY_WORD)
        self.assertEqual(reach(program), reach(program))
        self.assertEqual(program, EVERY_WORD)


class TestRooms(unittest.TestCase):

    def test_rising_of_all_terms(self):
        self.assertEqual(rooms_of(EVERY_WORD), [0, 1, 2, 3, 4, 5, 6, 7, 99])
        self.assertEqual(rooms_of(of(REST)), [])
        self.assertEqual(rooms_of(program=of(("ask", (3, 9)))), [3, 9])
        self.assertEqual(rooms_of([("a", ("ask", (9,))), ("b", ("ask", (2, 50)))]), [2, 9, 50])
        self.assertEqual(rooms_of(of(("round", 0, 0, ("ask", (4,))))), [4])
        self.assertEqual(rooms_of(of(("then", (("fork", (("ask", (8,)), ("ask", (3, 8)))),
                                               ("round", 0, None, ("ask", (6,))))))), [3, 6, 8])

    def test_what_is_told_is_the_askers_own(self):
        program = list(EVERY_WORD)
        told = rooms_of(program)
        told.append(50)
        told[0] = 77
        self.assertEqual(rooms_of(program), [0, 1, 2, 3, 4, 5, 6, 7, 99])
        self.assertEqual(program, EVERY_WORD)
        self.assertIsInstance(told, list)


if __name__ == "__main__":
    unittest.main()
