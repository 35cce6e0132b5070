"""Programs and webs written as texts, and read back."""

from surehand.errors import NoProgram, NoText, NoWeb
from surehand.programs import DEEPEST, is_named_term, look_at_program
from surehand.webs import MOST_ROWS, is_row, look_at_web

FIGURES = "0123456789"
MOST_FIGURES = 9


def shown_numbers(numbers):
    """Tell numbers with commas between, `-` where there are none."""
    return "-" if len(numbers) == 0 else ",".join([str(number) for number in numbers])


def shown_term(term):
    """Tell a term as a text."""
    word = term[0]
    if word == "ask":
        return f"ask {shown_numbers(term[1])}"
    if word == "then" or word == "fork":
        return " ".join([word, str(len(term[1]))] + [shown_term(one) for one in term[1]])
    if word == "round":
        most = "-" if term[2] is None else str(term[2])
        return f"round {term[1]} {most} {shown_term(term[3])}"
    return " ".join(term)


def shown_program(program):
    """Tell a program as a text."""
    return "\n".join([f"{name} {shown_term(term)}" for name, term in program])


def shown_web(web):
    """Tell a web as a text."""
    look_at_web(web)
    return "\n".join([f"{shown_numbers(rooms)} > {shown_numbers(tos)}" for rooms, tos in web])


def number_of(word):
    """Tell the number that a word writes in at most nine figures, None where it writes none."""
    if not 1 <= len(word) <= MOST_FIGURES or not all([sign in FIGURES for sign in word]):
        return None
    if word[0] == "0" and len(word) > 1:
        return None
    return int(word)


def numbers_of(word):
    """Tell the numbers that a word writes with commas between, each None where it is none; `-` writes none."""
    return () if word == "-" else tuple([number_of(one) for one in word.split(",")])


class Reader:
    """The words of a row of a program's text, read from the first one on."""

    def __init__(self, row, number):
        self.parts = row.split(" ")
        self.number = number
        self.place = 0

    def take(self):
        """Tell the next word."""
        if self.place == len(self.parts):
            raise NoText(self.number)
        self.place += 1
        return self.parts[self.place - 1]

    def take_number(self):
        """Tell the number that the next word writes."""
        number = number_of(self.take())
        if number is None:
            raise NoText(self.number)
        return number

    def take_term(self, deep):
        """Tell the next term, whatever its numbers and names, but not deeper than told."""
        # The depth is looked at first, since hundreds of terms may stand within one another.
        if deep < 1:
            raise NoText(self.number)
        word = self.take()
        if word == "ask":
            return (word, numbers_of(self.take()))
        if word == "rest":
            return (word,)
        if word == "then" or word == "fork":
            return (word, self.take_terms(self.take_number(), deep - 1))
        if word == "round":
            return self.take_round(deep - 1)
        if word == "call":
            return (word, self.take())
        raise NoText(self.number)

    def take_terms(self, many, deep):
        """Tell so many terms."""
        terms = []
        for one in range(many):
            terms.append(self.take_term(deep))
        return tuple(terms)

    def take_round(self, deep):
        """Tell a round, behind its first word."""
        least = self.take_number()
        most = None
        if self.place < len(self.parts) and self.parts[self.place] == "-":
            self.take()
        else:
            most = self.take_number()
        return ("round", least, most, self.take_term(deep))

    def take_all(self):
        """Tell the tuple of a name and a term that all words write."""
        told = (self.take(), self.take_term(DEEPEST))
        if self.place < len(self.parts) or not is_named_term(told):
            raise NoText(self.number)
        return told


def rows_of(text):
    """Tell the rows of a text, refuse what is none."""
    if not isinstance(text, str):
        raise NoText(None)
    return text.split("\n")


def read_program(text):
    """Tell the program that a text writes."""
    program = [Reader(row, number).take_all() for number, row in enumerate(rows_of(text))]
    try:
        look_at_program(program)
    except NoProgram:
        raise NoText(None) from None
    return program


def read_row(row, number):
    """Tell the row of a web that a row of a text writes."""
    parts = row.split(" ")
    if len(parts) != 3 or parts[1] != ">":
        raise NoText(number)
    told = (numbers_of(parts[0]), numbers_of(parts[2]))
    if not is_row(told, MOST_ROWS):
        raise NoText(number)
    return told


def read_web(text):
    """Tell the web that a text writes."""
    web = [read_row(row, number) for number, row in enumerate(rows_of(text))]
    try:
        look_at_web(web)
    except NoWeb:
        raise NoText(None) from None
    return web
