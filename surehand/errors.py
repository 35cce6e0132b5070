"""The refusals of the package.

Their words are fixed: what is refused may be anything at all, also a thing
that can't be written out.
"""


class HandError(ValueError):
    """What the package refuses, but for rooms, steps and names."""


class NoShelf(HandError):
    """The field part tells what of a shelf is not so."""

    def __init__(self, part):
        super().__init__("no such shelf")
        self.part = part


class NoProgram(HandError):
    """The field number tells the first tuple that is not so, or None."""

    def __init__(self, number):
        super().__init__("no program")
        self.number = number


class NoWeb(HandError):
    """The field row tells the first row that is not so, or None."""

    def __init__(self, row):
        super().__init__("no web")
        self.row = row


class NoRun(HandError):
    """The field number tells the first step that is not so, or None."""

    def __init__(self, number):
        super().__init__("no run of this web")
        self.number = number


class NoText(HandError):
    """The field row tells the first row that is not so, or None."""

    def __init__(self, row):
        super().__init__("no text of a program or a web")
        self.row = row


class TooMany(HandError):
    """Something has more than is allowed."""


class Endless(HandError):
    """A run of the web goes on without end."""


class NoCost(HandError):
    """What was handed in is no cost."""


class NoRow(HandError):
    """What was handed in is no row's number."""


class NoNames(HandError):
    """What was handed in is no list of new names, or no order of rows."""


class NoBack(HandError):
    """There is nothing to undo."""


class BadRow(HandError):
    """What was said to the desk is no row that it knows."""


class NoRoom(LookupError):
    """The field room tells what was handed in."""

    def __init__(self, room):
        super().__init__("no such room")
        self.room = room


class NoStep(IndexError):
    """The field to tells what was handed in."""

    def __init__(self, to):
        super().__init__("no such step")
        self.to = to


class NoName(KeyError):
    """The field name tells the name by which nothing is kept."""

    def __init__(self, name):
        super().__init__("nothing is kept by this name")
        self.name = name
