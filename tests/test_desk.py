"""Points [29] and [30]: the desk."""

import random
import string
import unittest

from surehand.changes import put_ahead
from surehand.costs import is_ending
from surehand.dearest import dearest
from surehand.desk import Desk
from surehand.errors import (BadRow, Endless, HandError, NoBack, NoName, NoRoom, NoRow, NoShelf, NoText, TooMany)
from surehand.keeper import Keeper
from surehand.making import web_of
from surehand.sure import numbers
from surehand.texts import read_program, shown_web
from tests.helper import (Angry, WAYS, all_asks, ending_web, line, odd_lists, odd_things, rooms_of_web, shown,
                          some_webs)

TEXT = "1 > 1; 2 > 2; 1,3 > -; 3 > 3"
WEB = [((1,), (1,)), ((2,), (2,)), ((1, 3), ()), ((3,), (3,))]
NUMBER_ROWS = ("put a {} {}", "sure a {} {}", "numbers a {} {}", "cost a {} {}")
ALL_ROWS = ("web a 2 last " + TEXT, "program a 2 last a ask 1", "drop a", "names", "shown a", "put a 0 1", "grow a 2",
            "undo a", "sure a 0 1", "words a", "numbers a 0 1", "cost a 1 10")


def in_one_row(web):
    """The text of a web as the desk has it."""
    return shown_web(web).replace("\n", "; ")


def desk_with(**texts):
    """A desk with Keepers of size 2 by `last`."""
    desk = Desk()
    for name, text in texts.items():
        assert desk.say(f"web {name} 2 last {text}") == "ok"
    return desk


def all_of(desk):
    """All that a desk tells."""
    names = desk.say("names")
    found = [names]
    for name in names.split(" ") if names != "-" else []:
        found.append((desk.say(f"shown {name}"), desk.say(f"words {name}")))
    return found


class DeskCase(unittest.TestCase):

    def refused(self, desk, error, said, **fields):
        """It is refused with these fields, and nothing is changed."""
        before = all_of(desk)
        with self.subTest(shown(said)):
            with self.assertRaises(error) as caught:
                desk.say(said)
            for field, must in fields.items():
                self.assertEqual(vars(caught.exception)[field], must)
            if error not in (NoRoom, NoName):
                self.assertIsInstance(caught.exception, HandError)
        self.assertEqual(all_of(desk), before)


class TestSaid(DeskCase):

    def test_a_day_at_the_desk(self):
        desk = Desk()
        for row, must in (("names", "-"), ("web a 2 last " + TEXT, "ok"), ("names", "a"), ("shown a", TEXT),
                          ("sure a 0 1", "some"), ("sure a 2 1", "always"), ("sure a 2 3", "never"),
                          ("sure a 3 3", "unmet"), ("words a", "1 1 2 1"), ("numbers a 2 1", "1 1"),
                          ("numbers a 2 3", "2 -"), ("numbers a 3 3", "unmet"), ("numbers a 0 1", "0 -"),
                          ("cost a 1 10", "30"), ("cost a 0 0", "0"), ("cost a 10 1", "30"),
                          ("grow a 3", "ok"), ("words a", "1 0 3 1"), ("sure a 2 3", "some"), ("cost a 1 10", "30"),
                          ("put a 2 1", "ok"), ("shown a", "1 > 1; 2 > 2; 1 > 3; 1,3 > -; 3 > 4"),
                          ("sure a 3 1", "always"), ("undo a", "ok"), ("undo a", "ok"), ("words a", "1 1 2 1"),
                          ("program bb 1 tree main then 2 ask 1 call x; x ask 1", "ok"), ("names", "a bb"),
                          ("words bb", "1 0 1 0"), ("cost bb 1 10", "11"), ("drop a", "ok"), ("names", "bb"),
                          ("web abcdefgh 8 first - > -", "ok"), ("names", "abcdefgh bb"), ("shown abcdefgh", "- > -"),
                          ("words abcdefgh", "0 0 0 0"), ("drop bb", "ok"), ("drop abcdefgh", "ok"), ("names", "-")):
            with self.subTest(row):
                told = desk.say(row)
                self.assertIsInstance(told, str)
                self.assertEqual(told, must)
        self.assertEqual(Desk().say(row="names"), "-")

    def test_as_the_points_tell_it(self):
        chance = random.Random(91)
        for web in some_webs(chance, 25) + [ending_web(chance, 6, range(4)) for _ in range(10)]:
            desk, way = Desk(), chance.choice(WAYS)
            desk.say(f"web x 2 {way} {in_one_row(web)}")
            keeper = Keeper(web, 2, way)
            self.check(desk, keeper)
            row, room = chance.randrange(len(web)), chance.choice(rooms_of_web(web) + [77])
            desk.say(f"put x {row} {room}")
            keeper.put(row, room)
            self.check(desk, keeper)
            desk.say("grow x 1")
            keeper.grow(1)
            self.check(desk, keeper)
            desk.say("undo x")
            desk.say("undo x")
            self.check(desk, Keeper(web, 2, way))
            self.refused(desk, NoBack, "undo x")

    def check(self, desk, keeper):
        """The desk tells of x what it must of this keeper's web, size and way."""
        web, counts = keeper.web(), keeper.counts()
        self.assertEqual(desk.say("shown x"), in_one_row(web))
        self.assertEqual(desk.say("words x"),
                         f"{counts['always']} {counts['never']} {counts['some']} {counts['unmet']}")
        for row, room in all_asks(web):
            self.assertEqual(desk.say(f"sure x {row} {room}"), keeper.word(row, room))
            two = numbers(web, row, room)
            must = "unmet" if two is None else f"{two[0]} {'-' if two[1] is None else two[1]}"
            self.assertEqual(desk.say(f"numbers x {row} {room}"), must)
        if is_ending(web):
            for near, far in ((1, 10), (7, 2), (0, 0), (999999999, 0)):
                must = dearest(web, keeper.size(), keeper.way(), near, far)[0]
                self.assertEqual(desk.say(f"cost x {near} {far}"), str(must))
        else:
            self.refused(desk, Endless, "cost x 1 10")

    def test_programs(self):
        for text in ("a rest", "a ask 1,2", "main then 2 round 0 - call x call x; x fork 2 ask 1 ask 2"):
            desk = Desk()
            self.assertEqual(desk.say("program p 2 first " + text), "ok")
            self.assertEqual(desk.say("shown p"), in_one_row(web_of(read_program(text.replace("; ", "\n")))))

    def test_in_an_elder_ones_stead(self):
        desk = desk_with(a=TEXT, b="1 > -")
        desk.say("put a 0 9")
        self.assertEqual(desk.say("web a 4 tree 5 > -"), "ok")
        self.assertEqual((desk.say("names"), desk.say("shown a"), desk.say("shown b")), ("a b", "5 > -", "1 > -"))
        self.refused(desk, NoBack, "undo a")
        self.assertEqual(desk.say("program a 4 tree z rest"), "ok")
        self.assertEqual((desk.say("names"), desk.say("shown a")), ("a b", "- > -"))

    def test_names_are_sorted(self):
        desk = desk_with(b="- > -", aa="- > -", c="- > -", a="- > -", ab="- > -")
        self.assertEqual(desk.say("names"), "a aa ab b c")
        desk.say("drop b")
        self.assertEqual(desk.say("names"), "a aa ab c")

    def test_keepers_do_not_touch_one_another(self):
        desk = desk_with(a=TEXT, b=TEXT)
        desk.say("put a 0 9")
        desk.say("grow b 4")
        self.assertEqual((desk.say("shown a"), desk.say("shown b")), (in_one_row(put_ahead(WEB, 0, 9)), TEXT))
        desk.say("undo b")
        desk.say("drop a")
        self.assertEqual(desk.say("words b"), "1 1 2 1")
        self.refused(desk, NoBack, "undo b")
        self.assertEqual(Desk().say("names"), "-")

    def test_ten_names(self):
        desk = desk_with(**{name: "1 > -" for name in string.ascii_lowercase[:10]})
        self.refused(desk, TooMany, "web k 2 last 1 > -")
        self.refused(desk, TooMany, "program k 2 last a rest")
        self.assertEqual(desk.say("web j 2 last 2 > -"), "ok")
        self.assertEqual(desk.say("program a 2 last z rest"), "ok")
        self.assertEqual(desk.say("names"), "a b c d e f g h i j")
        # All that the points refuse goes ahead of an eleventh name.
        self.refused(desk, NoText, "web k 2 last x", row=0)
        self.refused(desk, NoShelf, "web k 9 last 1 > -", part="size")
        self.refused(desk, BadRow, "web k 2 lost 1 > -")
        desk.say("drop c")
        self.assertEqual(desk.say("web k 2 last 1 > -"), "ok")
        self.refused(desk, TooMany, "web c 2 last 1 > -")
        self.assertEqual(desk.say("names"), "a b d e f g h i j k")


class TestBadRows(DeskCase):

    def test_no_text(self):
        desk = desk_with(a=TEXT)
        for thing in [0, 7, b"names", ["names"], ("names",), *odd_things(), *odd_lists()]:
            self.refused(desk, BadRow, thing)

    def test_line_feeds(self):
        desk = desk_with(a=TEXT)
        for row in ALL_ROWS:
            for bad in (row + "\n", "\n" + row, row + "\nnames", row.replace(" ", "\n", 1)):
                if "\n" in bad:
                    self.refused(desk, BadRow, bad)
        self.refused(desk, BadRow, "web b 2 last 1 > 1\n2 > -")
        self.refused(desk, BadRow, "program b 2 last a rest\n")

    def test_words_too_few_or_too_many(self):
        desk = desk_with(a=TEXT)
        for row in ALL_ROWS:
            words = row.split(" ")
            most = 4 if words[0] in ("web", "program") else len(words) - 1
            for many in range(most + 1):
                if " ".join(words[:many]) != "names":
                    self.refused(desk, BadRow, " ".join(words[:many]))
            if most == len(words) - 1:
                for more in (" ", " x", " 1", "  ", " a"):
                    self.refused(desk, BadRow, row + more)

    def test_words_without_signs(self):
        desk = desk_with(a=TEXT)
        for row in ALL_ROWS:
            words = row.split(" ")
            for at in range(4 if words[0] in ("web", "program") else len(words)):
                self.refused(desk, BadRow, " ".join(words[:at] + [""] + words[at:]))
                self.refused(desk, BadRow, " ".join(words[:at] + [""] + words[at + 1:]))
            self.refused(desk, BadRow, " " + row)
            self.refused(desk, BadRow, row.replace(" ", "\t", 1) if " " in row else row + "\t")
        for row in ("", " ", "\t", "Names", "NAMES", "name", "ring a", "web", "undo", "sure"):
            self.refused(desk, BadRow, row)

    def test_names(self):
        desk = desk_with(a=TEXT)
        for name in ("A", "a1", "1", "-", "abcdefghi", "a-b", "a_b", "aA", "a\t", "a;", ".", "abcdefghijkl", "'a'"):
            for row in ALL_ROWS:
                words = row.split(" ")
                if len(words) > 1:
                    self.refused(desk, BadRow, " ".join([words[0], name] + words[2:]))

    def test_numbers(self):
        desk = desk_with(a=TEXT)
        for number in ("x", "-1", "+1", "01", "00", "1.0", "1_0", "-", "1e3", "0x1", "1000000000", "0000000001", "1,2",
                       "1;", "9" * 5000, "1\t", "None"):
            for row in NUMBER_ROWS:
                self.refused(desk, BadRow, row.format(number, 1))
                self.refused(desk, BadRow, row.format(1, number))
            self.refused(desk, BadRow, f"grow a {number}")
            self.refused(desk, BadRow, f"web b {number} last 1 > -")
            self.refused(desk, BadRow, f"program b {number} last a rest")

    def test_nine_figures(self):
        desk = desk_with(a=TEXT)
        self.refused(desk, NoRow, "put a 999999999 1")
        self.refused(desk, NoRoom, "put a 0 999999999", room=999999999)
        self.refused(desk, NoRoom, "sure a 0 999999999", room=999999999)
        self.refused(desk, NoRoom, "sure a 999999999 1", room=1)
        self.refused(desk, NoShelf, "grow a 999999999", part="size")
        self.refused(desk, NoShelf, "web b 999999999 tree 1 > -", part="size")
        self.assertEqual(desk.say("cost a 999999999 999999999"), str(999999999 * 3))

    def test_ways(self):
        desk = desk_with(a=TEXT)
        for way in ("Last", "lasts", "lru", "-", "0", "last,", "first\t", "trees"):
            self.refused(desk, BadRow, f"web b 2 {way} 1 > -")
            self.refused(desk, BadRow, f"program b 2 {way} a rest")
            self.refused(desk, BadRow, f"web b 2 {way} x")

    def test_bad_rows_go_ahead(self):
        desk = Desk()
        for row in ("drop a b", "put a x 1", "put a 0 1 ", "sure a 0 01", "cost a 1 1000000000", "grow a -1", "undo a ",
                    "words a b", "shown A", "web a x last x", "web a 0 lost x"):
            self.refused(desk, BadRow, row)


class TestRefused(DeskCase):

    def test_no_name(self):
        desk = desk_with(a=TEXT)
        for row in ALL_ROWS[2:]:
            words = row.split(" ")
            if len(words) > 1:
                for name in ("b", "aa", "zzzzzzzz"):
                    self.refused(desk, NoName, " ".join([words[0], name] + words[2:]), name=name)
        # Ahead of all that the points refuse.
        for row in ("put b 99 100", "grow b 0", "sure b 9 9", "numbers b 9 9", "undo b"):
            self.refused(desk, NoName, row, name="b")
        desk.say("drop a")
        self.refused(desk, NoName, "drop a", name="a")
        self.refused(desk, NoName, "shown a", name="a")

    def test_texts(self):
        desk = desk_with(a=TEXT)
        for text, row in (("", 0), (" ", 0), (" - > -", 0), ("- > - ", 0), ("- > -;", 0), ("- > -; ", 1),
                          ("; - > -", 0), ("- > -;- > -", 0), ("- > -;  - > -", 1), ("- > - ; - > -", 0),
                          ("- > -; ; - > -", 1), ("- > -; - > 80", 1), ("- > 1", None), ("- > -\t", 0), ("x", 0),
                          ("a rest", 0), ("; ".join(["- > -"] * 81), None), ("- > -;; - > -", 0)):
            for size in (2, 9, 0):
                self.refused(desk, NoText, f"web b {size} last {text}", row=row)
                self.refused(desk, NoText, f"web a {size} tree {text}", row=row)
        for text, row in (("", 0), (" ", 0), (" a rest", 0), ("a rest ", 0), ("a rest; ", 1), ("a rest;b rest", 0),
                          ("a rest; b", 1), ("a call b", None), ("a rest; a rest", None), ("- > -", 0),
                          ("a " + "then 1 " * 6 + "rest", 0), ("a rest; b " + "then 1 " * 500 + "rest", 1)):
            for size in (2, 9, 0):
                self.refused(desk, NoText, f"program b {size} last {text}", row=row)
                self.refused(desk, NoText, f"program a {size} tree {text}", row=row)

    def test_no_shelf(self):
        desk = desk_with(a=TEXT)
        far = "a round 12 12 round 12 12 ask 1"
        many = in_one_row(line([range(5)] * 40))
        for size, way in ((0, "last"), (9, "last"), (0, "first"), (9, "first"), (3, "tree"), (5, "tree"), (16, "tree")):
            for text in ("1 > -", many):
                self.refused(desk, NoShelf, f"web b {size} {way} {text}", part="size")
            for text in ("a rest", far, "a " + "then 1 " * 5 + "ask 1"):
                self.refused(desk, NoShelf, f"program b {size} {way} {text}", part="size")
        for size in (0, 9, 100):
            self.refused(desk, NoShelf, f"grow a {size}", part="size")
        desk.say("web t 2 tree 1 > -")
        for size in (0, 3, 5, 6, 7, 9):
            self.refused(desk, NoShelf, f"grow t {size}", part="size")

    def test_too_many(self):
        desk = desk_with(a=TEXT)
        self.refused(desk, TooMany, f"web b 4 last {in_one_row(line([range(5)] * 40))}")
        self.assertEqual(desk.say(f"web b 4 last {in_one_row(line([range(5)] * 39))}"), "ok")
        self.refused(desk, TooMany, "put b 0 1")
        self.refused(desk, TooMany, "grow b 5")
        self.refused(desk, TooMany, "program c 2 last a round 12 12 round 12 12 ask 1")
        self.refused(desk, TooMany, "program c 8 tree a then 3 ask 1,2,3 ask 4,5,6 ask 7,8,9")
        rooms = "a then 3 ask 0,1,2,3,4,5 ask 6,7,8,9,10,11 ask 12"
        self.refused(desk, TooMany, f"program c 1 last {rooms}")
        self.assertEqual(desk.say(f"web d 1 last {in_one_row(line([()] * 80))}"), "ok")
        self.refused(desk, TooMany, "put d 0 1")
        self.assertEqual(desk.say("drop d"), "ok")

    def test_rows_and_rooms(self):
        desk = desk_with(a=TEXT)
        self.refused(desk, NoRow, "put a 4 1")
        self.refused(desk, NoRow, "put a 4 100")
        self.refused(desk, NoRoom, "put a 3 100", room=100)
        for word in ("sure", "numbers"):
            self.refused(desk, NoRoom, f"{word} a 4 1", room=1)
            self.refused(desk, NoRoom, f"{word} a 0 2", room=2)
            self.refused(desk, NoRoom, f"{word} a 0 100", room=100)
        self.refused(desk, NoBack, "undo a")

    def test_endless(self):
        desk = desk_with(a=TEXT, ring="1 > 0")
        self.refused(desk, Endless, "cost ring 0 0")
        self.assertEqual(desk.say("cost a 0 1"), "3")

    def test_what_is_refused_keeps_the_elder_one(self):
        desk = desk_with(a=TEXT)
        desk.say("put a 0 9")
        for row in ("web a 2 last x", "web a 9 last 1 > -", "program a 2 last a call b", "grow a 0", "put a 9 9"):
            before = all_of(desk)
            self.assertRaises(HandError, desk.say, row)
            self.assertEqual(all_of(desk), before)
        self.assertEqual(desk.say("undo a"), "ok")
        self.assertEqual(desk.say("shown a"), TEXT)

    def test_odd_things_are_not_asked(self):
        self.assertRaises(BadRow, Desk().say, Angry())


if __name__ == "__main__":
    unittest.main()
