"""Rooms, ways, sizes and lays, and what an ask does to a lay."""

WAYS = ("last", "first", "tree")
MOST_SLOTS = 8
TREE_SIZES = (1, 2, 4, 8)
LAST_ROOM = 99
EMPTY = -1


def is_whole(thing):
    """Tell whether it is an int that is neither True nor False."""
    return isinstance(thing, int) and not isinstance(thing, bool)


def is_room(thing):
    """Tell whether it is a room."""
    return is_whole(thing) and 0 <= thing <= LAST_ROOM


def are_rising(numbers):
    """Tell whether each of these numbers is above the one ahead of it."""
    return all([one < other for one, other in zip(numbers, numbers[1:])])


def are_rooms(thing, least, most):
    """Tell whether it is a tuple of so many rooms, rising and unlike."""
    if not isinstance(thing, tuple) or not least <= len(thing) <= most:
        return False
    return all([is_room(room) for room in thing]) and are_rising(thing)


def is_way(thing):
    """Tell whether it is a way to keep a shelf."""
    return isinstance(thing, str) and thing in WAYS


def is_size(thing, way):
    """Tell whether a shelf kept by this way, which is one, may have this size."""
    if not is_whole(thing) or not 1 <= thing <= MOST_SLOTS:
        return False
    return way != "tree" or thing in TREE_SIZES


def how_many_bits(size, way):
    """Tell how many bits a shelf has."""
    return size - 1 if way == "tree" else 0


def is_slot(thing):
    """Tell whether it may stand in a slot."""
    return is_room(thing) or (is_whole(thing) and thing == EMPTY)


def is_bit(thing):
    """Tell whether it is a bit."""
    return is_whole(thing) and 0 <= thing <= 1


def are_slots(thing, size):
    """Tell whether these are the slots of a lay of this size."""
    if not isinstance(thing, tuple) or len(thing) != size:
        return False
    if not all([is_slot(slot) for slot in thing]):
        return False
    rooms = [slot for slot in thing if slot != EMPTY]
    return len(set(rooms)) == len(rooms)


def are_bits(thing, size, way):
    """Tell whether these are the bits of a lay of this size and way."""
    if not isinstance(thing, tuple) or len(thing) != how_many_bits(size, way):
        return False
    return all([is_bit(bit) for bit in thing])


def is_lay(thing, size, way):
    """Tell whether it is a lay of a shelf of this size, kept by this way."""
    if not is_way(way) or not is_size(size, way):
        return False
    if not isinstance(thing, tuple) or len(thing) != 2:
        return False
    return are_slots(thing[0], size) and are_bits(thing[1], size, way)


def put_first(slots, room):
    """Tell the slots with the room in slot 0, in the stead of itself or of the last one."""
    gone = slots.index(room) if room in slots else len(slots) - 1
    return (room,) + slots[:gone] + slots[gone + 1:]


def slot_led_to(bits, size):
    """Tell the slot to which the bits lead."""
    slot = 0
    bit = 0
    half = size // 2
    while half > 0:
        turn = bits[bit]
        slot += turn * half
        bit = 2 * bit + 1 + turn
        half = half // 2
    return slot


def led_away(bits, slot, size):
    """Tell the bits with each one that is over the slot leading away from it."""
    led = list(bits)
    bit = 0
    half = size // 2
    within = slot
    while half > 0:
        turn = 1 if within >= half else 0
        led[bit] = 1 - turn
        within -= turn * half
        bit = 2 * bit + 1 + turn
        half = half // 2
    return tuple(led)


def asked_by_tree(slots, bits, room):
    """Tell the lay behind an ask by tree."""
    size = len(slots)
    slot = slots.index(room) if room in slots else slot_led_to(bits, size)
    return slots[:slot] + (room,) + slots[slot + 1:], led_away(bits, slot, size)


def asked(lay, room, way):
    """Tell the lay behind an ask for the room, and whether it was at hand."""
    slots, bits = lay
    near = room in slots
    if way == "tree":
        return asked_by_tree(slots, bits, room), near
    if way == "first" and near:
        return (slots, bits), near
    return (put_first(slots, room), bits), near
