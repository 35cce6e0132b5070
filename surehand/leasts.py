"""Tables of least sets: what was asked at least since a room was asked for last."""

from surehand.sets import (EMPTY_ALONE, all_lacks, family_of, is_kept_by, is_set, leasts_of, numbers_in, places_of,
                           set_number, sorted_sets, spread, upward)
from surehand.shelves import look_at_room
from surehand.webs import are_lists_by_rows, look_at_web


def least_sets(web, room):
    """Tell for each row the least since-sets of the room of all runs that come there."""
    look_at_web(web)
    look_at_room(room)
    places = places_of(web, room)
    lacks = all_lacks(len(places))
    families = spread(web, EMPTY_ALONE, places, lacks, upward)
    return [sorted_sets(numbers_in(leasts_of(family, lacks)), places) for family in families]


def lets_least(web, room, thing):
    """Tell whether it is a table of least sets for the room."""
    look_at_web(web)
    look_at_room(room)
    if not are_lists_by_rows(thing, web):
        return False
    places = places_of(web, room)
    if not all([are_unlike_sets(row, places) for row in thing]) or () not in thing[0]:
        return False
    families = [family_of([set_number(one, places) for one in row]) for row in thing]
    return is_kept_by(web, families, places, all_lacks(len(places)), upward)


def are_unlike_sets(things, places):
    """Tell whether these are sets of rooms that have places, no two alike."""
    return all([is_set(one, places) for one in things]) and len(set(things)) == len(things)
