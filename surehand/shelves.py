"""Shelves that are asked for rooms."""

from surehand.errors import NoRoom, NoShelf
from surehand.ways import EMPTY, are_bits, are_slots, asked, how_many_bits, is_room, is_size, is_way


def wrong_part(size, way, slots, bits):
    """Tell the first part of a shelf that is not so, None where all are."""
    if not is_way(way):
        return "way"
    if not is_size(size, way):
        return "size"
    if slots is not None and not are_slots(slots, size):
        return "slots"
    if bits is not None and not are_bits(bits, size, way):
        return "bits"
    return None


def look_at_room(thing):
    """Tell None of a room, refuse everything else."""
    if not is_room(thing):
        raise NoRoom(thing)


def look_at_kind(size, way):
    """Tell None where a shelf may have this size and way, refuse everything else."""
    part = wrong_part(size, way, None, None)
    if part is not None:
        raise NoShelf(part)


class Shelf:
    """A quick shelf: its size and way, what lies on it, and how its asks went."""

    def __init__(self, size=4, way="last", slots=None, bits=None):
        part = wrong_part(size, way, slots, bits)
        if part is not None:
            raise NoShelf(part)
        self.many = size
        self.kept_by = way
        self.slots = (EMPTY,) * size if slots is None else tuple(slots)
        self.bits = (0,) * how_many_bits(size, way) if bits is None else tuple(bits)
        self.near = 0
        self.far = 0

    def ask(self, room):
        """Ask for a room, and tell whether it was at hand."""
        look_at_room(room)
        behind, near = asked(self.lay(), room, self.kept_by)
        self.slots = behind[0]
        self.bits = behind[1]
        if near:
            self.near += 1
        else:
            self.far += 1
        return near

    def size(self):
        """Tell how many slots it has."""
        return self.many

    def way(self):
        """Tell the way by which it is kept."""
        return self.kept_by

    def lay(self):
        """Tell what lies on it, as a tuple (slots, bits)."""
        return (self.slots, self.bits)

    def holds(self, thing):
        """Tell whether it is a room that is at hand now."""
        return is_room(thing) and thing in self.slots

    def counts(self):
        """Tell how many asks were at hand, and how many not."""
        return (self.near, self.far)

    def twin(self):
        """Tell a Shelf that is the same now and goes on by itself."""
        other = Shelf(self.many, self.kept_by, self.slots, self.bits)
        other.near = self.near
        other.far = self.far
        return other

    def __eq__(self, other):
        return (isinstance(other, Shelf) and self.many == other.many and self.kept_by == other.kept_by
                and self.slots == other.slots and self.bits == other.bits)

    def __len__(self):
        return len([slot for slot in self.slots if slot != EMPTY])

    def __str__(self):
        return " ".join(["-" if slot == EMPTY else str(slot) for slot in self.slots])

    def __repr__(self):
        return f"Shelf({self.many}, {self.kept_by!r}, {self.slots!r}, {self.bits!r})"
