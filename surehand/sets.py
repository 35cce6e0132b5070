"""Sets of rooms and families of such sets, as numbers, and how they go along a web.

The rooms have places, from 0 on. A set of them is the number whose bit k tells
whether it has the room at place k. A family of sets is the number whose bit m
tells whether it has the set m. So what is done to a family is done to all of
its sets, of which there may be thousands, by a few steps.

The list lacks has, for each place, the family of all sets without the room
there.
"""

from surehand.ways import are_rooms
from surehand.webs import rooms_in

NO_FAMILY = 0
# The family that has but the empty set, whose number is 0.
EMPTY_ALONE = 1


def places_of(web, room):
    """Tell the places of all rooms of the web but that one, which so are the rooms of its since-sets."""
    others = [one for one in rooms_in(web) if one != room]
    return {one: place for place, one in enumerate(others)}


def all_lacks(many):
    """Tell, for each of so many places, the family of all sets without the room there."""
    lacks = []
    for place in range(many):
        # All sets of the rooms at the places below, then these again with each room at a place above.
        family = (1 << (1 << place)) - 1
        for above in range(place + 1, many):
            family |= family << (1 << above)
        lacks.append(family)
    return lacks


def set_number(rooms, places):
    """Tell the number of a set."""
    return sum([1 << places[room] for room in rooms])


def rooms_of_set(number, places):
    """Tell the rooms of a set, rising as the places are."""
    return tuple([room for room in places if (number >> places[room]) & 1 == 1])


def numbers_in(family):
    """Tell the numbers of the sets of a family, falling."""
    numbers = []
    while family != NO_FAMILY:
        number = family.bit_length() - 1
        numbers.append(number)
        family -= 1 << number
    return numbers


def family_of(numbers):
    """Tell the family of the sets that have these numbers."""
    family = NO_FAMILY
    for number in numbers:
        family |= 1 << number
    return family


def sorted_sets(numbers, places):
    """Tell the sets that have these numbers, sorted by how many rooms they have, then by these."""
    return sorted([rooms_of_set(number, places) for number in numbers], key=lambda one: (len(one), one))


def with_room(family, place, lacks):
    """Tell the sets of a family, the room at the place put into each."""
    without = family & lacks[place]
    return (family - without) | (without << (1 << place))


def upward(family, lacks):
    """Tell a family and all sets within which one of it lies."""
    for place in range(len(lacks)):
        family |= with_room(family, place, lacks)
    return family


def downward(family, lacks):
    """Tell a family and all sets that lie within one of it."""
    for place in range(len(lacks)):
        family |= (family >> (1 << place)) & lacks[place]
    return family


def leasts_of(family, lacks):
    """Tell the least sets of a family that has all sets within which one of it lies."""
    above = NO_FAMILY
    for place in range(len(lacks)):
        above |= (family & lacks[place]) << (1 << place)
    return family - (family & above)


def greatests_of(family, lacks):
    """Tell the greatest sets of a family that has all sets that lie within one of it."""
    below = NO_FAMILY
    for place in range(len(lacks)):
        below |= (family >> (1 << place)) & lacks[place]
    return family - (family & below)


def behind(family, rooms, places, lacks):
    """Tell the sets that come of a family by a row with these rooms."""
    if family == NO_FAMILY or len(rooms) == 0:
        return family
    come = NO_FAMILY
    for room in rooms:
        # Only the room whose since-sets these are has no place: what was asked since it is nothing then.
        come |= with_room(family, places[room], lacks) if room in places else EMPTY_ALONE
    return come


def spread(web, first, places, lacks, close):
    """Tell for each row the closed family of all that comes there along the web, where first is at row 0."""
    families = [NO_FAMILY] * len(web)
    families[0] = close(first, lacks)
    waiting = [0]
    while len(waiting) > 0:
        row = waiting.pop(0)
        rooms, tos = web[row]
        come = close(behind(families[row], rooms, places, lacks), lacks)
        for to in tos:
            if not is_within(come, families[to]):
                families[to] |= come
                if to not in waiting:
                    waiting.append(to)
    return families


def is_within(family, other):
    """Tell whether the other family has all sets of the family."""
    return family | other == other


def is_kept_by(web, families, places, lacks, close):
    """Tell whether all that comes of each row's family is in the closed family of each to."""
    closed = [close(family, lacks) for family in families]
    for family, (rooms, tos) in zip(families, web):
        come = behind(family, rooms, places, lacks)
        if not all([is_within(come, closed[to]) for to in tos]):
            return False
    return True


def is_set(thing, places):
    """Tell whether it is a rising tuple of unlike rooms that have places."""
    return are_rooms(thing, 0, len(places)) and all([room in places for room in thing])
