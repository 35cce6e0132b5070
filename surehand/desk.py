"""A desk: keepers are kept by names, told rows of words, and asked."""

from surehand.dearest import dearest
from surehand.errors import BadRow, NoName, TooMany
from surehand.keeper import WORDS, Keeper
from surehand.making import web_of
from surehand.programs import are_letters
from surehand.shelves import look_at_kind
from surehand.sure import numbers
from surehand.texts import number_of, read_program, read_web, shown_web
from surehand.ways import is_way

MOST_KEEPERS = 10
LONGEST_NAME = 8
# What follows the first word of each row.
FORMS = {
    "web": ("name", "number", "way", "text"),
    "program": ("name", "number", "way", "text"),
    "drop": ("name",),
    "names": (),
    "shown": ("name",),
    "put": ("name", "number", "number"),
    "grow": ("name", "number"),
    "undo": ("name",),
    "sure": ("name", "number", "number"),
    "words": ("name",),
    "numbers": ("name", "number", "number"),
    "cost": ("name", "number", "number"),
}


def parts_of(row):
    """Tell the first word of a row, and the tuple of what follows it, its numbers as such."""
    if not isinstance(row, str) or "\n" in row:
        raise BadRow("no row of words")
    word = row.partition(" ")[0]
    if word not in FORMS:
        raise BadRow("no such row")
    form = FORMS[word]
    # A text has blanks of its own, and is all that follows.
    words = row.split(" ", len(form)) if "text" in form else row.split(" ")
    if len(words) != len(form) + 1:
        raise BadRow("a word too few or too many")
    parts = [part_of(one, kind) for one, kind in zip(words[1:], form)]
    if not all([part is not None for part in parts]):
        raise BadRow("no such word there")
    return (word, tuple(parts))


def part_of(word, kind):
    """Tell what a word writes where this kind stands, None where it writes none."""
    if kind == "number":
        return number_of(word)
    if kind == "name":
        return word if are_letters(word, LONGEST_NAME) else None
    if kind == "way":
        return word if is_way(word) else None
    return word.replace("; ", "\n")


def shown_so(keeper, parts):
    """Tell the web of a keeper as a text of one row."""
    return shown_web(keeper.web()).replace("\n", "; ")


def put_so(keeper, parts):
    """Put a room ahead of a row of a keeper."""
    name, row, room = parts
    keeper.put(row, room)
    return "ok"


def grow_so(keeper, parts):
    """Have another size."""
    name, size = parts
    keeper.grow(size)
    return "ok"


def undo_so(keeper, parts):
    """Undo the last deed of a keeper."""
    keeper.undo()
    return "ok"


def sure_so(keeper, parts):
    """Tell the word of an ask."""
    name, row, room = parts
    return keeper.word(row, room)


def words_so(keeper, parts):
    """Tell how many asks have each word."""
    counts = keeper.counts()
    return " ".join([str(counts[word]) for word in WORDS])


def numbers_so(keeper, parts):
    """Tell the numbers of an ask."""
    name, row, room = parts
    told = numbers(keeper.web(), row, room)
    if told is None:
        return "unmet"
    return " ".join(["-" if number is None else str(number) for number in told])


def cost_so(keeper, parts):
    """Tell what a dearest run costs."""
    name, near, far = parts
    return str(dearest(keeper.web(), keeper.size(), keeper.way(), near, far)[0])


ANSWERS = {"shown": shown_so, "put": put_so, "grow": grow_so, "undo": undo_so, "sure": sure_so, "words": words_so,
           "numbers": numbers_so, "cost": cost_so}


class Desk:
    """Keepers by their names."""

    def __init__(self):
        self.keepers = {}

    def say(self, row):
        """Tell the answer to a row of words."""
        word, parts = parts_of(row)
        if word == "names":
            return " ".join(sorted(self.keepers)) if len(self.keepers) > 0 else "-"
        if word == "web" or word == "program":
            return self.keep(word, parts)
        name = parts[0]
        if name not in self.keepers:
            raise NoName(name)
        if word == "drop":
            del self.keepers[name]
            return "ok"
        answer = ANSWERS[word]
        return answer(self.keepers[name], parts)

    def keep(self, word, parts):
        """Keep a Keeper of a web, or of a program's, that a text writes."""
        name, size, way, text = parts
        told = read_web(text) if word == "web" else read_program(text)
        look_at_kind(size, way)
        keeper = Keeper(told if word == "web" else web_of(told), size, way)
        if name not in self.keepers and len(self.keepers) == MOST_KEEPERS:
            raise TooMany("no more names are kept")
        self.keepers[name] = keeper
        return "ok"
