"""Webs changed: a room put ahead of a row, rooms called otherwise, rows in another order, webs joined."""

from surehand.errors import NoNames, NoRow, TooMany
from surehand.lays import look_at_many
from surehand.settled import all_words
from surehand.shelves import look_at_kind, look_at_room
from surehand.ways import is_room, is_whole
from surehand.webs import MOST_ROOMS, MOST_ROWS, is_row_number, look_at_web, rooms_in


def look_at_place(web, row, room):
    """Tell None of a row's number and a room, refuse everything else."""
    if not is_row_number(row, web):
        raise NoRow("no row's number")
    look_at_room(room)


def look_at_rows(rows):
    """Tell None of rows that are few enough for a web and have few enough rooms, refuse others."""
    if len(rows) > MOST_ROWS:
        raise TooMany("too many rows for a web")
    if len(rooms_in(rows)) > MOST_ROOMS:
        raise TooMany("too many rooms for a web")


def put_ahead(web, row, room):
    """Tell the web with a new row ahead of a row, which asks for the room and leads to that row alone."""
    look_at_web(web)
    look_at_place(web, row, room)
    # What led to the row keeps its number there, since the new row has it now.
    moved = [(rooms, tuple([to + 1 if to > row else to for to in tos])) for rooms, tos in web]
    rows = moved[:row] + [((room,), (row + 1,))] + moved[row:]
    look_at_rows(rows)
    return rows


def turned_by(web, row, room, size=4, way="last"):
    """Tell all asks whose words turn by a room put ahead of a row, with the word as it was and the new one."""
    look_at_web(web)
    look_at_place(web, row, room)
    look_at_kind(size, way)
    changed = put_ahead(web, row, room)
    # The web as it was has fewer rows and no more rooms: where this one has few enough lays, both have.
    look_at_many(changed, size, way)
    # Without the ask of the new row they are the same asks, in the same order.
    news = [new for at, asked, new in all_words(changed, size, way) if at != row]
    words = all_words(web, size, way)
    return [(at, asked, word, new) for (at, asked, word), new in zip(words, news) if word != new]


def are_names(thing, rooms):
    """Tell whether it is a list of tuples (room, new), one for each of these rooms, the new ones unlike rooms."""
    if not isinstance(thing, list) or not all([isinstance(one, tuple) and len(one) == 2 for one in thing]):
        return False
    if not all([is_room(room) and is_room(new) for room, new in thing]):
        return False
    return sorted([room for room, new in thing]) == rooms and len({new for room, new in thing}) == len(thing)


def called(web, names):
    """Tell the web with its rooms called by their new names."""
    look_at_web(web)
    if not are_names(names, rooms_in(web)):
        raise NoNames("no list of new names for all rooms")
    news = {room: new for room, new in names}
    return [(tuple(sorted([news[room] for room in rooms])), tos) for rooms, tos in web]


def is_order(thing, many):
    """Tell whether it is a list of all numbers of so many rows, 0 first."""
    if not isinstance(thing, list) or len(thing) != many or not all([is_whole(row) for row in thing]):
        return False
    return thing[0] == 0 and sorted(thing) == list(range(many))


def ordered(web, order):
    """Tell the web with its rows in another order."""
    look_at_web(web)
    if not is_order(order, len(web)):
        raise NoNames("no order of all rows, 0 first")
    places = {row: place for place, row in enumerate(order)}
    return [(web[row][0], tuple(sorted([places[to] for to in web[row][1]]))) for row in order]


def joined(web, other):
    """Tell the web whose runs are those of the first web, each with one of the other web behind it."""
    look_at_web(web)
    look_at_web(other)
    many = len(web)
    rows = [(rooms, tos if len(tos) > 0 else (many,)) for rooms, tos in web]
    rows.extend([(rooms, tuple([to + many for to in tos])) for rooms, tos in other])
    look_at_rows(rows)
    return rows
