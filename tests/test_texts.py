"""Point [27]: texts of programs and webs."""

import copy
import random
import unittest

from surehand.errors import HandError, NoText, NoWeb
from surehand.programs import look_at_program
from surehand.texts import read_program, read_web, shown_program, shown_web
from surehand.webs import look_at_web
from tests.helper import (Angry, WEBS, chance_program, chance_web, line, nested, odd_lists, odd_things, shown,
                          some_webs)

REST = ("rest",)
PROGRAM = [
    ("main", ("then", (("ask", (0, 5, 99)), ("fork", (REST, ("call", "b"), ("call", "cccccc"))),
                       ("round", 0, 12, ("call", "b"))))),
    ("b", ("round", 2, None, ("then", (("ask", (7,)),)))),
    ("cccccc", ("fork", (("ask", (1, 2, 3, 4, 5, 6)), REST))),
]
PROGRAM_TEXT = """main then 3 ask 0,5,99 fork 3 rest call b call cccccc round 0 12 call b
b round 2 - then 1 ask 7
cccccc fork 2 ask 1,2,3,4,5,6 rest"""
WEB = [((1, 5), (1, 2)), ((), (0, 3)), ((0,), (2, 3)), ((10, 99), ()), ((), ())]
WEB_TEXT = "1,5 > 1,2\n- > 0,3\n0 > 2,3\n10,99 > -\n- > -"


class TextCase(unittest.TestCase):

    def refused(self, asking, thing, row):
        with self.subTest(shown(thing)):
            with self.assertRaises(NoText) as caught:
                asking(thing)
            self.assertEqual(caught.exception.row, row)
            self.assertIsInstance(caught.exception, HandError)

    def outcome(self, asking, text):
        """What is told of a text, or a tuple with the row of its refusal."""
        try:
            return asking(text)
        except NoText as refusal:
            return ("refused", refusal.row)


class TestPrograms(TextCase):

    def there_and_back(self, program):
        before = copy.deepcopy(program)
        text = shown_program(program)
        self.assertIsInstance(text, str)
        self.assertEqual(read_program(text), program)
        self.assertEqual(shown_program(read_program(text)), text)
        self.assertEqual(program, before)

    def test_by_hand(self):
        self.assertEqual(shown_program(PROGRAM), PROGRAM_TEXT)
        self.assertEqual(read_program(PROGRAM_TEXT), PROGRAM)
        self.assertEqual(shown_program(program=[("a", REST)]), "a rest")
        self.assertEqual(read_program(text="a rest"), [("a", REST)])
        self.assertEqual(shown_program([("a", ("ask", (0,)))]), "a ask 0")
        self.there_and_back([("ask", ("call", "rest")), ("rest", ("then", (("call", "call"), REST))), ("call", REST)])
        self.assertEqual(read_program("ask call rest\nrest rest"), [("ask", ("call", "rest")), ("rest", REST)])

    def test_there_and_back(self):
        chance = random.Random(71)
        for _ in range(300):
            self.there_and_back(chance_program(chance))
        self.there_and_back(PROGRAM)

    def test_long_ones(self):
        eight = nested(5, lambda inner: ("then", (inner,) * 8), ("ask", (94, 95, 96, 97, 98, 99)))
        self.there_and_back([("a", eight)])
        self.there_and_back([(sign * 6, ("round", 12, 12, ("ask", (10,)))) for sign in "abcdefgh"])

    def test_rows_by_themselves(self):
        for row in ["a", "a ", " a rest", "a rest ", "a  rest", "a\trest", "a rest\t", "a rest rest", "rest", "A rest",
                    "aaaaaaa rest", "a1 rest", "- rest", "a ask", "a ask ", "a ask -", "a ask 100", "a ask 01",
                    "a ask 00",
                    "a ask 1,1", "a ask 2,1", "a ask 1,2,3,4,5,6,7", "a ask 1, 2", "a ask ,1", "a ask 1,", "a ask 1,,2",
                    "a ask -1", "a ask +1", "a ask 1.0", "a ask 1_0", "a ask x", "a ask 1 2", "a ask 0,01", "a call",
                    "a call ", "a call B", "a call aaaaaaa", "a call b c", "a call -", "a call 1", "a then", "a then 0",
                    "a then 1", "a then 2 rest", "a then 1 rest rest", "a then 9 " + " ".join(["rest"] * 9),
                    "a then 01 rest", "a then - rest", "a then x rest", "a then rest", "a then 1  rest",
                    "a fork 1 rest",
                    "a fork 0", "a fork 7 " + " ".join(["rest"] * 7), "a fork 2 rest", "a fork 3 rest rest",
                    "a round 1 2", "a round 1", "a round", "a round 1 rest", "a round 2 1 rest", "a round 0 13 rest",
                    "a round 13 - rest", "a round 13 13 rest", "a round - 1 rest", "a round - - rest",
                    "a round 0 01 rest",
                    "a round 00 1 rest", "a round 0 x rest", "a round 0 None rest", "a round -1 1 rest", "a round 1 -",
                    "a round 0 1 rest rest", "a round 0 - ", "a round 0 -- rest", "a round 0", "a round 0 ", "a Rest",
                    "a ring 1", "a ask 1;", "a rest;", "a (rest)", "a then 999999999 rest", "a then 9999999999 rest",
                    "a fork 2 rest " + "1" * 5000, "a ask " + "1" * 5000, "a round 1 " + "9" * 5000 + " rest",
                    "a then " + "1" * 5900 + " rest", "x" * 5900, " " * 5900, "a" + " " * 5900, "a " + "rest " * 1100,
                    "a then 2 rest\trest", "a ask 1\t", "\ta rest", "a rest\r", "", " "]:
            self.refused(read_program, row, 0)
            self.refused(read_program, "b rest\n" + row, 1)
            self.refused(read_program, row + "\n\n", 0)
            self.refused(read_program, "b rest\nb rest\n" + row + "\nc rest", 2)

    def test_rows_that_write_a_tuple(self):
        for row in ("a rest", "a ask 0", "a ask 94,95,96,97,98,99", "abcdef call zzzzzz", "a then 1 rest",
                    "a then 8 " + " ".join(["rest"] * 8), "a fork 6 " + " ".join(["rest"] * 6), "a round 0 0 rest",
                    "a round 12 12 rest", "a round 12 - rest", "a round 0 - call a"):
            self.refused(read_program, row + "\n", 1)
            self.refused(read_program, row + "\nb\n", 1)
            self.refused(read_program, row + "\n" + row, None)

    def test_depth(self):
        for ahead, behind in (("then 1 ", ""), ("fork 2 ", " rest"), ("round 1 2 ", ""), ("round 0 - ", ""),
                              ("then 2 rest ", "")):
            for last in ("rest", "ask 1", "call b"):
                for times in range(6):
                    text = "a " + ahead * times + last + behind * times + "\nb rest"
                    program = read_program(text)
                    self.assertIsNone(look_at_program(program))
                    self.assertEqual(shown_program(program), text)
                for times in (6, 7, 8, 50, 300, 5900 // len(ahead + behind)):
                    text = "a " + ahead * times + last + behind * times
                    self.refused(read_program, text, 0)
                    self.refused(read_program, "b rest\n" + text, 1)
                    self.refused(read_program, "a " + ahead * times, 0)
        self.refused(read_program, "a " + "then 8 " * 800, 0)
        self.refused(read_program, "a " + "then 999999999 " * 390, 0)

    def test_no_program(self):
        for text in ("a call b", "a call a", "a rest\na rest", "a rest\nb call a", "a rest\nb rest\na call c",
                     "a call b\nc rest", "\n".join(f"{sign} rest" for sign in "abcdefghi"),
                     "\n".join(["a rest"] * 100), "a then 2 call b call c\nb rest", "a fork 2 rest round 0 - call b"):
            self.refused(read_program, text, None)
        # A row that by itself writes nothing goes ahead of all that.
        self.refused(read_program, "a call a\na rest\nx", 2)
        self.refused(read_program, "\n".join(["a rest"] * 100) + "\n", 100)

    def test_no_text(self):
        for thing in [0, 7, b"a rest", ["a rest"], ("a rest",), PROGRAM, *odd_things(), *odd_lists()]:
            if not isinstance(thing, str):
                self.refused(read_program, thing, None)
        for thing in (one for one in odd_things() if isinstance(one, str)):
            self.refused(read_program, thing, 0)

    def test_by_chance(self):
        """What is read is written just so, and the first row is told that isn't read by itself."""
        chance = random.Random(72)
        found = {"read": 0, "row": 0, "none": 0}
        for _ in range(3000):
            signs = list(shown_program(chance_program(chance)))
            for _ in range(chance.randint(1, 2)):
                at = chance.randrange(len(signs))
                signs[at:at + chance.randint(0, 2)] = chance.choice(["", *"01 \n-,ab\t", "rest", "call b"])
            text = "".join(signs)
            alone = [self.outcome(read_program, row) for row in text.split("\n")]
            wrong = [number for number, told in enumerate(alone) if told == ("refused", 0)]
            told = self.outcome(read_program, text)
            if isinstance(told, list):
                self.assertEqual(shown_program(told), text)
                self.assertIsNone(look_at_program(told))
                self.assertEqual(wrong, [])
            else:
                self.assertEqual(told, ("refused", wrong[0] if wrong else None))
            found["read" if isinstance(told, list) else "row" if wrong else "none"] += 1
        self.assertGreater(min(found.values()), 10)

    def test_what_is_told_is_the_askers_own(self):
        told = read_program(PROGRAM_TEXT)
        told.append(3)
        told[0] = None
        self.assertEqual(read_program(PROGRAM_TEXT), PROGRAM)

    def test_no_error_for_what_goes_beyond_the_limits(self):
        self.assertEqual(shown_program([("a", ("ask", (100, 3)))] * 9), "\n".join(["a ask 100,3"] * 9))
        self.assertEqual(shown_program([("abcdefg", nested(8, lambda one: ("then", (one,)), REST))]),
                         "abcdefg " + "then 1 " * 8 + "rest")


class TestWebs(TextCase):

    def there_and_back(self, web):
        before = copy.deepcopy(web)
        text = shown_web(web)
        self.assertIsInstance(text, str)
        self.assertEqual(read_web(text), web)
        self.assertEqual(shown_web(read_web(text)), text)
        self.assertEqual(web, before)

    def test_by_hand(self):
        self.assertEqual(shown_web(WEB), WEB_TEXT)
        self.assertEqual(read_web(WEB_TEXT), WEB)
        self.assertEqual(shown_web(web=[((), ())]), "- > -")
        self.assertEqual(read_web(text="- > -"), [((), ())])
        self.assertEqual(read_web("0 > 0"), [((0,), (0,))])

    def test_there_and_back(self):
        chance = random.Random(73)
        for web in some_webs(chance, 100):
            self.there_and_back(web)
        for _ in range(20):
            self.there_and_back(chance_web(chance, 80, range(88, 100), 40))
        self.there_and_back([((4, 5, 6), tuple(range(80)))] * 80)
        self.there_and_back(line([()] * 80))

    def test_rows_by_themselves(self):
        for row in ["", " ", "-", "- >", "- > ", "> -", " > -", "-> -", "- >-", "->-", "- > - ", " - > -", "-  > -",
                    "- >  -", "-\t> -", "- >\t-", "- > -\t", "\t- > -", "- - > -", "- > - -", "- < -", "- > - > -", "1",
                    "01 > -", "00 > -", "- > 00", "- > 01", "100 > -", "- > 80", "- > 79,80", "- > 100", "1,1 > -",
                    "2,1 > -", "- > 1,1", "- > 2,1", "1,2,3,4,5,6,7 > -", "1, 2 > -", ",1 > -", "1, > -", "1,,2 > -",
                    "- > ,1", "- > 1,", "- > 0,,1", "-,1 > -", "1,- > -", "-- > -", "- > --", "-1 > -", "- > -1",
                    "+1 > -",
                    "1.0 > -", "x > -", "- > x", "1_0 > -", "None > -", "- > None", "1;2 > -", "- > -;",
                    "1" * 5900 + " > -",
                    "- > " + "9" * 5900, "- > " + ",".join(map(str, range(81))), "- > -\r", "() > ()", "1 > 1 "]:
            self.refused(read_web, row, 0)
            self.refused(read_web, "- > -\n" + row, 1)
            self.refused(read_web, row + "\n\n", 0)
            self.refused(read_web, "- > 79\n- > -\n" + row + "\n- > -", 2)

    def test_last_line_feed(self):
        self.refused(read_web, "- > -\n", 1)
        self.refused(read_web, "\n- > -", 0)
        self.refused(read_web, "- > -\n\n- > -", 1)
        self.refused(read_web, WEB_TEXT + "\n", 5)
        self.refused(read_web, "\n", 0)

    def test_no_web(self):
        for text in ("- > 1", "- > 79", "- > 0,1\n- > 2", "- > -\n0,5 > 3,79", "- > " + ",".join(map(str, range(80))),
                     "\n".join(["- > -"] * 81), "\n".join(["- > 79"] * 79),
                     "\n".join(f"{room} > -" for room in range(13))):
            self.refused(read_web, text, None)
        self.assertEqual(len(read_web("\n".join(["- > 79"] * 80))), 80)
        self.assertEqual(len(read_web("\n".join(f"{room} > -" for room in range(12)))), 12)
        # A row that by itself writes nothing goes ahead of all that.
        self.refused(read_web, "- > 79\n- > 80", 1)
        self.refused(read_web, "\n".join(["- > -"] * 81) + "\n", 81)
        self.refused(read_web, "\n".join(f"{room} > -" for room in range(14)) + "\nx", 14)

    def test_no_text(self):
        for thing in [0, 7, b"- > -", ["- > -"], ("- > -",), WEB, *odd_things(), *odd_lists()]:
            if not isinstance(thing, str):
                self.refused(read_web, thing, None)
        for thing in (one for one in odd_things() if isinstance(one, str)):
            self.refused(read_web, thing, 0)

    def test_by_chance(self):
        chance = random.Random(74)
        found = {"read": 0, "row": 0, "none": 0}
        for number in range(3000):
            signs = list(shown_web(chance.choice(WEBS) if number % 2 else chance_web(chance, 5, range(4), 3)))
            for _ in range(chance.randint(1, 2)):
                at = chance.randrange(len(signs))
                signs[at:at + chance.randint(0, 2)] = chance.choice(["", *"0123 \n-,>\t", "- > -", "\n4 > 0"])
            text = "".join(signs)
            alone = [self.outcome(read_web, row) for row in text.split("\n")]
            wrong = [row for row, told in enumerate(alone) if told == ("refused", 0)]
            told = self.outcome(read_web, text)
            if isinstance(told, list):
                self.assertEqual(shown_web(told), text)
                self.assertIsNone(look_at_web(told))
                self.assertEqual(wrong, [])
            else:
                self.assertEqual(told, ("refused", wrong[0] if wrong else None))
            found["read" if isinstance(told, list) else "row" if wrong else "none"] += 1
        self.assertGreater(min(found.values()), 10)

    def test_what_is_no_web_is_not_written(self):
        for thing in [[], tuple(WEB), [None], Angry(), *odd_things(), *odd_lists()]:
            with self.subTest(shown(thing)):
                self.assertRaises(NoWeb, shown_web, thing)

    def test_what_is_told_is_the_askers_own(self):
        told = read_web(WEB_TEXT)
        told.append(3)
        told[0] = None
        self.assertEqual(read_web(WEB_TEXT), WEB)


if __name__ == "__main__":
    unittest.main()
