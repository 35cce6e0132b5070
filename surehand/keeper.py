"""A keeper of a web: the web is changed, deed by deed and back, and the words of its asks are told."""

from surehand.changes import put_ahead
from surehand.errors import NoBack
from surehand.lays import look_at_many
from surehand.settled import all_words
from surehand.shelves import look_at_kind
from surehand.webs import look_at_ask, look_at_web

WORDS = ("always", "never", "some", "unmet")


class Keeper:
    """A web, the size and way of its shelves, and all deeds that are not undone."""

    def __init__(self, web, size=4, way="last"):
        look_at_web(web)
        look_at_kind(size, way)
        look_at_many(web, size, way)
        self.rows = list(web)
        self.many = size
        self.kept_by = way
        # Reckoned when the first word is asked for, as deeds may follow one another without any.
        self.known = None
        self.past = []

    def go_on(self, rows, size):
        """Have these rows and this size from now on, by a deed that may be undone."""
        look_at_many(rows, size, self.kept_by)
        self.past.append((self.rows, self.many, self.known))
        self.rows = rows
        self.many = size
        self.known = None

    def put(self, row, room):
        """Put a room ahead of a row."""
        self.go_on(put_ahead(self.rows, row, room), self.many)

    def grow(self, size):
        """Have another size, or the same."""
        look_at_kind(size, self.kept_by)
        self.go_on(self.rows, size)

    def change(self, web):
        """Have another web, or the same."""
        look_at_web(web)
        self.go_on(list(web), self.many)

    def undo(self):
        """Undo the last deed that isn't undone."""
        if len(self.past) == 0:
            raise NoBack("no deed is left to undo")
        rows, many, known = self.past.pop()
        self.rows = rows
        self.many = many
        self.known = known

    def web(self):
        """Tell the web as it is now."""
        return list(self.rows)

    def size(self):
        """Tell the size as it is now."""
        return self.many

    def way(self):
        """Tell the way."""
        return self.kept_by

    def know(self):
        """Reckon the words of all asks, where they are not known."""
        if self.known is None:
            told = all_words(self.rows, self.many, self.kept_by)
            self.known = {(row, room): word for row, room, word in told}

    def word(self, row, room):
        """Tell the word of an ask."""
        look_at_ask(self.rows, row, room)
        self.know()
        return self.known[(row, room)]

    def words(self):
        """Tell the words of all asks, tuples (row, room, word), sorted."""
        self.know()
        return [(row, room, word) for (row, room), word in self.known.items()]

    def counts(self):
        """Tell how many asks have each word."""
        self.know()
        told = {word: 0 for word in WORDS}
        for word in self.known.values():
            told[word] += 1
        return told

    def twin(self):
        """Tell a Keeper that is the same now, has the same deeds to undo, and goes on by itself."""
        other = Keeper(self.rows, self.many, self.kept_by)
        other.known = self.known
        other.past = list(self.past)
        return other

    def __eq__(self, other):
        return (isinstance(other, Keeper) and self.rows == other.rows and self.many == other.many
                and self.kept_by == other.kept_by)

    def __len__(self):
        return len(self.past)
