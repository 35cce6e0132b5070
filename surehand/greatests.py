"""Tables of greatest sets: what was asked at most since a room was asked for last.

A run that is new to the room is taken as one that has asked for all rooms and
for one thing more, which has the last place and which no row asks for: so what
covers it covers all, nothing else covers it, and it stays new until the room
itself is asked for.
"""

from surehand.sets import (all_lacks, downward, family_of, greatests_of, is_kept_by, is_set, numbers_in, places_of,
                           set_number, sorted_sets, spread)
from surehand.shelves import look_at_room
from surehand.webs import are_lists_by_rows, look_at_web


def new_number(places):
    """Tell the number that stands for new: that of the set of all rooms and the one thing more."""
    return (1 << (len(places) + 1)) - 1


def greatest_sets(web, room):
    """Tell for each row the greatest since-sets of the room of all runs that come there, None where one is new."""
    look_at_web(web)
    look_at_room(room)
    places = places_of(web, room)
    lacks = all_lacks(len(places) + 1)
    families = spread(web, family_of([new_number(places)]), places, lacks, downward)
    return [told_row(numbers_in(greatests_of(family, lacks)), places) for family in families]


def told_row(numbers, places):
    """Tell the sets of a row, sorted, None alone where some run is new."""
    # What stands for new covers all, so that where it is greatest it is the only one.
    if new_number(places) in numbers:
        return [None]
    return sorted_sets(numbers, places)


def lets_greatest(web, room, thing):
    """Tell whether it is a table of greatest sets for the room."""
    look_at_web(web)
    look_at_room(room)
    if not are_lists_by_rows(thing, web):
        return False
    places = places_of(web, room)
    if not all([are_unlike_sets_or_new(row, places) for row in thing]) or None not in thing[0]:
        return False
    families = [family_of([number_or_new(one, places) for one in row]) for row in thing]
    return is_kept_by(web, families, places, all_lacks(len(places) + 1), downward)


def are_unlike_sets_or_new(things, places):
    """Tell whether each of these is a set of rooms that have places, or None, no two alike."""
    return all([one is None or is_set(one, places) for one in things]) and len(set(things)) == len(things)


def number_or_new(one, places):
    """Tell the number of a set, or the one that stands for new."""
    return new_number(places) if one is None else set_number(one, places)
