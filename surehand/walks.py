"""Walks: runs of a web in the making, with a shelf, step by step and back."""

from surehand.errors import NoBack, NoRoom, NoShelf, NoStep
from surehand.runs import is_ask_of
from surehand.shelves import Shelf
from surehand.ways import is_whole
from surehand.webs import look_at_web


def is_way_on(tos, thing):
    """Tell whether a walk may go on so from a row with these tos, None where the row has none."""
    if len(tos) == 0:
        return thing is None
    return is_whole(thing) and thing in tos


class Walk:
    """A walk along a web: where it stands, its shelf, and all steps that are not undone."""

    def __init__(self, web, shelf):
        look_at_web(web)
        if not isinstance(shelf, Shelf):
            raise NoShelf("way")
        self.rows = list(web)
        self.place = 0
        self.kept = shelf.twin()
        # The shelf may have been asked ahead of the walk: that is none of the walk's counts.
        self.counts_ahead = shelf.counts()
        self.past = []

    def step(self, room=None, to=None):
        """Ask for a room and go on to a row, and tell whether the room was at hand."""
        if self.place is None:
            raise NoStep(to)
        rooms, tos = self.rows[self.place]
        if not is_ask_of(rooms, room):
            raise NoRoom(room)
        if not is_way_on(tos, to):
            raise NoStep(to)
        self.past.append((self.place, room, self.kept))
        self.place = to
        if room is None:
            return None
        # The shelves of the past are never asked again, so that undo and twins may take them as they are.
        self.kept = self.kept.twin()
        return self.kept.ask(room)

    def undo(self):
        """Undo the last step that isn't undone."""
        if len(self.past) == 0:
            raise NoBack("no step is left to undo")
        row, room, shelf = self.past.pop()
        self.place = row
        self.kept = shelf

    def at(self):
        """Tell the row at which it stands, None where it is over."""
        return self.place

    def run(self):
        """Tell the steps that are not undone."""
        return [(row, room) for row, room, shelf in self.past]

    def counts(self):
        """Tell how many asks of its steps were at hand, and how many not."""
        near, far = self.kept.counts()
        return (near - self.counts_ahead[0], far - self.counts_ahead[1])

    def shelf(self):
        """Tell a twin of its shelf."""
        return self.kept.twin()

    def twin(self):
        """Tell a Walk that is the same now and goes on by itself."""
        other = Walk(self.rows, self.kept)
        other.place = self.place
        other.counts_ahead = self.counts_ahead
        other.past = list(self.past)
        return other

    def __eq__(self, other):
        return (isinstance(other, Walk) and self.rows == other.rows and self.place == other.place
                and self.run() == other.run() and self.kept == other.kept)

    def __len__(self):
        return len(self.past)
