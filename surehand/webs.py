"""Webs of rows: how they are looked at, their rooms, and the rows to which a run comes."""

from surehand.errors import NoRoom, NoWeb
from surehand.ways import are_rising, are_rooms, is_room, is_whole

MOST_ROWS = 80
MOST_ROOMS = 12


def are_tos(thing, rows):
    """Tell whether it is a tuple of numbers of rows, rising and unlike, in a web of so many rows."""
    if not isinstance(thing, tuple) or len(thing) > rows:
        return False
    return all([is_whole(to) and 0 <= to < rows for to in thing]) and are_rising(thing)


def is_row(thing, rows):
    """Tell whether it is a row of a web of so many rows."""
    if not isinstance(thing, tuple) or len(thing) != 2:
        return False
    return are_rooms(thing[0], 0, 6) and are_tos(thing[1], rows)


def rooms_in(rows):
    """Tell the rooms of these rows, rising."""
    return sorted({room for rooms, tos in rows for room in rooms})


def look_at_web(thing):
    """Tell None of a web, refuse everything else."""
    if not isinstance(thing, list) or not 1 <= len(thing) <= MOST_ROWS:
        raise NoWeb(None)
    for number, row in enumerate(thing):
        if not is_row(row, len(thing)):
            raise NoWeb(number)
    if len(rooms_in(thing)) > MOST_ROOMS:
        raise NoWeb(None)


def is_row_number(thing, web):
    """Tell whether it is the number of a row of the web."""
    return is_whole(thing) and 0 <= thing < len(web)


def look_at_ask(web, row, room):
    """Tell None of an ask of the web, refuse everything else."""
    if not is_row_number(row, web) or not is_room(room) or room not in web[row][0]:
        raise NoRoom(room)


def are_lists_by_rows(thing, web):
    """Tell whether it is a list with a list for each row of the web."""
    if not isinstance(thing, list) or len(thing) != len(web):
        return False
    return all([isinstance(one, list) for one in thing])


def web_rooms(web):
    """Tell the rooms of a web, rising."""
    look_at_web(web)
    return rooms_in(web)


def met_rows(web):
    """Tell the rows to which a run of the web comes, rising."""
    look_at_web(web)
    met = [0]
    seen = set(met)
    at = 0
    while at < len(met):
        for to in web[met[at]][1]:
            if to not in seen:
                seen.add(to)
                met.append(to)
        at += 1
    return sorted(met)
