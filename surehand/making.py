"""Webs made of programs."""

from surehand.errors import TooMany
from surehand.programs import look_at_program, reach, reach_of, reaches_of, rooms_of
from surehand.webs import MOST_ROOMS, MOST_ROWS


class Weaver:
    """The rows of a web in the making, from its end back to its begin.

    The first row that is made is the end of all runs. Each term is given the
    row to which its runs lead, and makes at most as many rows as its reach.
    """

    def __init__(self, program):
        self.terms = {name: term for name, term in program}
        self.reaches = reaches_of(program)
        self.rows = [((), [])]

    def new_row(self, rooms, tos):
        """Make a row, its tos in any order, perhaps some of them twice, and tell its number."""
        self.rows.append((rooms, tos))
        return len(self.rows) - 1

    def begin(self, term, to):
        """Make the rows of a term that leads to a row, and tell the row at which it begins."""
        word = term[0]
        # What has no reach asks for nothing, and may be there too often to go through it.
        if word == "rest" or reach_of(term, self.reaches) == 0:
            return to
        if word == "ask":
            return self.new_row(term[1], [to])
        if word == "call":
            return self.begin(self.terms[term[1]], to)
        if word == "then":
            return self.begin_all(term[1], to)
        if word == "fork":
            return self.begin_one_of(term[1], to)
        if term[2] is None:
            return self.begin_times(term[3], term[1], self.begin_ring(term[3], to))
        return self.begin_times(term[3], term[1], self.begin_at_most(term[3], term[2] - term[1], to))

    def begin_all(self, terms, to):
        """Make the rows of terms one behind the other."""
        for one in reversed(terms):
            to = self.begin(one, to)
        return to

    def begin_one_of(self, terms, to):
        """Make the rows of one of several terms."""
        tos = []
        for one in terms:
            tos.append(self.begin(one, to))
        return self.new_row((), tos)

    def begin_times(self, term, times, to):
        """Make the rows of a term that is gone just so many times."""
        for time in range(times):
            to = self.begin(term, to)
        return to

    def begin_at_most(self, term, times, to):
        """Make the rows of a term that is gone so many times or fewer."""
        first = to
        for time in range(times):
            first = self.new_row((), [self.begin(term, first), to])
        return first

    def begin_ring(self, term, to):
        """Make the rows of a term that is gone any number of times."""
        # The row must be there ahead of the term that leads back to it.
        ring = self.new_row((), [to])
        again = self.begin(term, ring)
        self.rows[ring] = ((), [to, again])
        return ring


def numbered_from(rows, start):
    """Tell a web of the rows, numbered anew: start is row 0, the others are in turned order."""
    order = [start] + [row for row in reversed(range(len(rows))) if row != start]
    numbers = {row: number for number, row in enumerate(order)}
    return [(rows[row][0], tuple(sorted({numbers[to] for to in rows[row][1]}))) for row in order]


def web_of(program):
    """Tell a web whose runs ask for what the runs of the program ask for."""
    look_at_program(program)
    if reach(program) > MOST_ROWS - 1:
        raise TooMany("the program reaches too far")
    if len(rooms_of(program)) > MOST_ROOMS:
        raise TooMany("the program has too many rooms")
    weaver = Weaver(program)
    start = weaver.begin(program[0][1], 0)
    return numbered_from(weaver.rows, start)
