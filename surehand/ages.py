"""Ages from above and below of all rooms at all rows, on shelves kept by last."""

from surehand.shelves import look_at_kind
from surehand.ways import is_whole
from surehand.webs import look_at_web, rooms_in


def ages(web, size=4):
    """Tell for each row the ages from above and below of all rooms of the web, None where no run comes there."""
    look_at_web(web)
    look_at_kind(size, "last")
    rooms = rooms_in(web)
    told = [None] * len(web)
    told[0] = first_ages(rooms, size)
    waiting = [0]
    while len(waiting) > 0:
        row = waiting.pop(0)
        come = behind_row(told[row], web[row][0], rooms, size)
        for to in web[row][1]:
            both = come if told[to] is None else joined_ages(told[to], come)
            if both != told[to]:
                # A copy, since each row has lists of its own.
                told[to] = (list(both[0]), list(both[1]))
                if to not in waiting:
                    waiting.append(to)
    return told


def first_ages(rooms, size):
    """Tell the ages that are so whatever lies on the shelf."""
    return ([size] * len(rooms), [0] * len(rooms))


def joined_ages(one, other):
    """Tell the ages that are so where either are."""
    return ([max(age, than) for age, than in zip(one[0], other[0])],
            [min(age, than) for age, than in zip(one[1], other[1])])


def behind_ask(pair, place, size):
    """Tell the ages behind an ask of the room at this place among the rooms."""
    aboves = [age + 1 if age < pair[0][place] else age for age in pair[0]]
    belows = [min(size, age + 1) if age <= pair[1][place] else age for age in pair[1]]
    aboves[place] = 0
    belows[place] = 0
    return (aboves, belows)


def behind_row(pair, asks, rooms, size):
    """Tell the ages behind a row that asks for one of these, or for nothing, among the rooms."""
    if len(asks) == 0:
        return pair
    come = behind_ask(pair, rooms.index(asks[0]), size)
    for room in asks[1:]:
        come = joined_ages(come, behind_ask(pair, rooms.index(room), size))
    return come


def lets_ages(web, thing, size=4):
    """Tell whether these are ages of the web that hold."""
    look_at_web(web)
    look_at_kind(size, "last")
    rooms = rooms_in(web)
    if not isinstance(thing, list) or len(thing) != len(web):
        return False
    if not all([pair is None or are_ages(pair, rooms, size) for pair in thing]):
        return False
    if thing[0] != first_ages(rooms, size):
        return False
    for pair, (asks, tos) in zip(thing, web):
        if pair is not None:
            come = behind_row(pair, asks, rooms, size)
            if not all([allows(thing[to], come) for to in tos]):
                return False
    return True


def are_ages(thing, rooms, size):
    """Tell whether it is a tuple of two lists with an age for each room."""
    if not isinstance(thing, tuple) or len(thing) != 2:
        return False
    return all([is_list_of_ages(one, len(rooms), size) for one in thing])


def is_list_of_ages(thing, many, size):
    """Tell whether it is a list of so many whole numbers from 0 to the size."""
    if not isinstance(thing, list) or len(thing) != many:
        return False
    return all([is_whole(age) and 0 <= age <= size for age in thing])


def allows(pair, come):
    """Tell whether what comes to a row is not above its aboves and not below its belows; None allows nothing."""
    return pair is not None and joined_ages(pair, come) == pair
