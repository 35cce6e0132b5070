"""What runs cost at most: webs that end, papers that bound the cost, and what these tell."""

from surehand.errors import NoCost
from surehand.lays import is_lay_with, look_at_many, reckoned
from surehand.runs import asks_of
from surehand.shelves import look_at_kind
from surehand.ways import asked, is_whole
from surehand.webs import are_lists_by_rows, look_at_web, rooms_in

MOST_COST = 10 ** 9


def ended_rows(web):
    """Tell all rows from which no run goes on without end, each one behind those to which it leads."""
    ended = []
    seen = set()
    found = True
    while found:
        news = [row for row, (rooms, tos) in enumerate(web)
                if row not in seen and all([to in seen for to in tos])]
        for row in news:
            seen.add(row)
        ended.extend(news)
        found = len(news) > 0
    return ended


def is_ending(web):
    """Tell whether no run of the web goes on without end."""
    look_at_web(web)
    return 0 in ended_rows(web)


def is_cost(thing):
    """Tell whether it is a cost of an ask."""
    return is_whole(thing) and 0 <= thing <= MOST_COST


def look_at_costs(near, far):
    """Tell None of two costs of asks, refuse everything else."""
    if not is_cost(near):
        raise NoCost("no cost of an ask at hand")
    if not is_cost(far):
        raise NoCost("no cost of an ask not at hand")


def priced(lay, room, way, near, far):
    """Tell the lay behind an ask, or behind nothing, and the price of it."""
    if room is None:
        return (lay, 0)
    behind, at_hand = asked(lay, room, way)
    return (behind, near if at_hand else far)


def lets_costs(web, thing, size=4, way="last", near=1, far=10):
    """Tell whether it is a paper that bounds what runs of the web cost."""
    look_at_web(web)
    look_at_kind(size, way)
    look_at_many(web, size, way)
    look_at_costs(near, far)
    if not are_lists_by_rows(thing, web):
        return False
    rooms = rooms_in(web)
    if not all([are_numbered_lays(one, rooms, size, way) for one in thing]):
        return False
    # They are unlike and the web's: so as many as there are are all.
    if len(thing[0]) != reckoned(len(rooms), size, way):
        return False
    known = [{lay: number for lay, number in one} for one in thing]
    for (asks, tos), one in zip(web, thing):
        leads = [known[to] for to in tos]
        steps = [(number, priced(lay, room, way, near, far)) for lay, number in one for room in asks_of(asks)]
        if not all([is_enough(number, behind, price, leads) for number, (behind, price) in steps]):
            return False
    return True


def are_numbered_lays(things, rooms, size, way):
    """Tell whether these are tuples of a lay with these rooms, no two alike, and a number."""
    if not all([isinstance(one, tuple) and len(one) == 2 for one in things]):
        return False
    if not all([is_lay_with(lay, rooms, size, way) and is_whole(number) and number >= 0 for lay, number in things]):
        return False
    return len({lay for lay, number in things}) == len(things)


def is_enough(number, behind, price, leads):
    """Tell whether a number pays the price and, together with it, what is told of the lay behind at each to."""
    return number >= price and all([behind in one and number >= price + one[behind] for one in leads])


def told_cost(paper):
    """Tell the greatest number at row 0 of a paper."""
    return max([number for lay, number in paper[0]])
