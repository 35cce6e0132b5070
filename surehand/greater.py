"""Greater shelves: a run in which one loses, or a table by which it never does."""

from surehand.errors import NoShelf
from surehand.lays import is_lay_with, table_of
from surehand.runs import all_states, asks_of, is_run, run_to
from surehand.shelves import Shelf, look_at_kind
from surehand.ways import asked
from surehand.webs import are_lists_by_rows, look_at_web, rooms_in

MOST_PAIRS = 5000


def look_at_sizes(lesser, size, way):
    """Tell None of a lesser and a greater size of this way, refuse everything else."""
    look_at_kind(lesser, way)
    look_at_kind(size, way)
    if size <= lesser:
        raise NoShelf("size")


def empty_pair(lesser, size, way):
    """Tell the lays of both shelves at first."""
    return (Shelf(lesser, way).lay(), Shelf(size, way).lay())


def pair_behind(pair, room, way):
    """Tell the lays of both shelves behind an ask, or behind nothing."""
    if room is None:
        return pair
    return (asked(pair[0], room, way)[0], asked(pair[1], room, way)[0])


def loses(pair, room):
    """Tell whether the room is at hand on the lesser shelf and not on the greater one."""
    return room in pair[0][0] and room not in pair[1][0]


def greater(web, lesser, size, way="first"):
    """Tell a run at whose last step the greater shelf loses, or a table by which it never does."""
    look_at_web(web)
    look_at_sizes(lesser, size, way)
    start = empty_pair(lesser, size, way)
    came = all_states(web, [start], lambda pair, room: pair_behind(pair, room, way), MOST_PAIRS)
    for row, pair in came:
        for room in web[row][0]:
            if loses(pair, room):
                begin, run = run_to(came, row, pair, room)
                return ("loses", run)
    return ("keeps", table_of(came, web))


def lets_greater(web, lesser, size, thing, way="first"):
    """Tell whether it is an answer to whether a greater shelf loses."""
    look_at_web(web)
    look_at_sizes(lesser, size, way)
    if not isinstance(thing, tuple) or len(thing) != 2 or not isinstance(thing[0], str):
        return False
    start = empty_pair(lesser, size, way)
    if thing[0] == "loses":
        return is_run(web, thing[1]) and loses_at_last(thing[1], start, way)
    if thing[0] != "keeps" or not are_lists_by_rows(thing[1], web):
        return False
    rooms = rooms_in(web)
    if not all([are_unlike_pairs(pairs, rooms, lesser, size, way) for pairs in thing[1]]):
        return False
    return start in thing[1][0] and all_keep(web, thing[1], way)


def loses_at_last(run, pair, way):
    """Tell whether the greater shelf loses at the last step of a run, from this pair of lays."""
    for row, room in run[:-1]:
        pair = pair_behind(pair, room, way)
    return loses(pair, run[-1][1])


def is_pair(thing, rooms, lesser, size, way):
    """Tell whether it is a tuple of two lays with these rooms, of the lesser and the greater size."""
    if not isinstance(thing, tuple) or len(thing) != 2:
        return False
    return is_lay_with(thing[0], rooms, lesser, way) and is_lay_with(thing[1], rooms, size, way)


def are_unlike_pairs(things, rooms, lesser, size, way):
    """Tell whether these are pairs of lays with these rooms, no two alike."""
    return all([is_pair(one, rooms, lesser, size, way) for one in things]) and len(set(things)) == len(things)


def all_keep(web, table, way):
    """Tell whether what comes of each pair is in the table, and the greater shelf loses nowhere."""
    known = [{pair: True for pair in pairs} for pairs in table]
    for pairs, (rooms, tos) in zip(table, web):
        if not all([not loses(pair, room) for pair in pairs for room in rooms]):
            return False
        come = {pair_behind(pair, room, way): True for pair in pairs for room in asks_of(rooms)}
        if not all([pair in known[to] for to in tos for pair in come]):
            return False
    return True
