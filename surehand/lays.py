"""All that may lie on a shelf, and tables of what lies there as runs come to rows."""

from surehand.errors import TooMany
from surehand.runs import all_states
from surehand.shelves import look_at_kind
from surehand.ways import EMPTY, asked, how_many_bits, is_lay
from surehand.webs import are_lists_by_rows, look_at_web, rooms_in

MOST_LAYS = 20000


def lays_many(web, size=4, way="last"):
    """Tell how many lays of the web there are."""
    look_at_web(web)
    look_at_kind(size, way)
    return reckoned(len(rooms_in(web)), size, way)


def reckoned(rooms, size, way):
    """Tell how many lays there are with so many rooms."""
    many = 0
    # With so many rooms there, from none on: those that are chosen, times the slots in which they may lie.
    these = 1
    for there in range(size + 1):
        many += these
        these = these * (rooms - there) * (size - there) // (there + 1)
    return many << how_many_bits(size, way)


def look_at_many(web, size, way):
    """Tell None of a web with few enough lays, refuse others."""
    if reckoned(len(rooms_in(web)), size, way) * len(web) > MOST_LAYS:
        raise TooMany("too many lays for a table")


def all_lays(rooms, size, way):
    """Tell all lays with these rooms, sorted."""
    slots = [()]
    for slot in range(size):
        slots = [some + (one,) for some in slots for one in [EMPTY] + rooms if one == EMPTY or one not in some]
    bits = [()]
    for bit in range(how_many_bits(size, way)):
        bits = [some + (one,) for some in bits for one in (0, 1)]
    return [(some, others) for some in slots for others in bits]


def lays_come(web, size, way):
    """Tell all lays with which runs come to rows, as all_states tells states."""
    return all_states(web, all_lays(rooms_in(web), size, way), lambda lay, room: asked(lay, room, way)[0])


def table_of(came, web):
    """Tell a table of all lays that came, sorted at each row."""
    table = [[] for row in web]
    for row, lay in came:
        table[row].append(lay)
    return [sorted(lays) for lays in table]


def stands(web, size=4, way="last"):
    """Tell for each row the lays that may lie there as a run comes to it."""
    look_at_web(web)
    look_at_kind(size, way)
    look_at_many(web, size, way)
    return table_of(lays_come(web, size, way), web)


def lets_stands(web, thing, size=4, way="last"):
    """Tell whether it is a table of lays of the web."""
    look_at_web(web)
    look_at_kind(size, way)
    look_at_many(web, size, way)
    if not are_lists_by_rows(thing, web):
        return False
    rooms = rooms_in(web)
    if not all([are_unlike_lays(lays, rooms, size, way) for lays in thing]):
        return False
    # They are unlike and the web's: so as many as there are are all.
    if len(thing[0]) != reckoned(len(rooms), size, way):
        return False
    known = [{lay: True for lay in lays} for lays in thing]
    for lays, (asks, tos) in zip(thing, web):
        come = lays_behind(lays, asks, way)
        if not all([lay in known[to] for to in tos for lay in come]):
            return False
    return True


def is_lay_with(thing, rooms, size, way):
    """Tell whether it is a lay whose slots have these rooms or are empty."""
    return is_lay(thing, size, way) and all([slot == EMPTY or slot in rooms for slot in thing[0]])


def are_unlike_lays(things, rooms, size, way):
    """Tell whether these are lays with these rooms, no two alike."""
    return all([is_lay_with(one, rooms, size, way) for one in things]) and len(set(things)) == len(things)


def lays_behind(lays, asks, way):
    """Tell the lays that come of these by a row that asks for one of the rooms, or for nothing, as keys of a dict."""
    if len(asks) == 0:
        return {lay: True for lay in lays}
    return {asked(lay, room, way)[0]: True for lay in lays for room in asks}
