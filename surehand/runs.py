"""Runs of webs, and shelves along them."""

from surehand.errors import NoRun, TooMany
from surehand.webs import look_at_web
from surehand.ways import is_room, is_whole

MOST_STEPS = 20000


def is_ask_of(rooms, thing):
    """Tell whether a row with these rooms may ask for it, None where the row has none."""
    if len(rooms) == 0:
        return thing is None
    return is_room(thing) and thing in rooms


def asks_of(rooms):
    """Tell all for which a row with these rooms may ask, None alone where it has none."""
    return (None,) if len(rooms) == 0 else rooms


def is_step(web, tos, thing):
    """Tell whether it is a step to one of these rows."""
    if not isinstance(thing, tuple) or len(thing) != 2:
        return False
    if not is_whole(thing[0]) or thing[0] not in tos:
        return False
    return is_ask_of(web[thing[0]][0], thing[1])


def look_at_run(web, thing):
    """Tell None of a run of the web, refuse everything else."""
    if not isinstance(thing, list) or not 1 <= len(thing) <= MOST_STEPS:
        raise NoRun(None)
    tos = (0,)
    for number, step in enumerate(thing):
        if not is_step(web, tos, step):
            raise NoRun(number)
        tos = web[step[0]][1]


def is_run(web, thing):
    """Tell whether it is a run of the web."""
    look_at_web(web)
    try:
        look_at_run(web, thing)
    except NoRun:
        return False
    return True


def along(web, run, shelf):
    """Tell for each step of a run from the shelf whether its room was at hand, None where none is asked for."""
    look_at_web(web)
    look_at_run(web, run)
    going = shelf.twin()
    told = []
    for row, room in run:
        told.append(None if room is None else going.ask(room))
    return told


def ends_with(web, thing, row, room):
    """Tell whether it is a run of the web whose last step is this ask."""
    return is_run(web, thing) and thing[-1] == (row, room)


def all_states(web, starts, behind, most=None):
    """Tell all states in which runs come to rows, a dict with the keys (row, state), the shortest runs first.

    A run begins at row 0 in one of the starts, and behind(state, room) tells the
    state behind an ask. The value is None at the begin of a run, else a tuple
    (row, state, room): the step ahead of a shortest run that comes so. Where
    most is told, more states than that, all rows together, are refused.
    """
    came = {(0, state): None for state in starts}
    ahead = list(came)
    # The states behind a row's asks, of which several are often alike, and are led on but once.
    left = set()
    at = 0
    while at < len(ahead):
        # Looked at on the way: there may be far more than could be gone through.
        if most is not None and len(came) > most:
            raise TooMany("too many states come to rows")
        row, state = ahead[at]
        at += 1
        rooms, tos = web[row]
        for room in asks_of(rooms):
            then = state if room is None else behind(state, room)
            if (row, then) not in left:
                left.add((row, then))
                for to in tos:
                    if (to, then) not in came:
                        came[(to, then)] = (row, state, room)
                        ahead.append((to, then))
    return came


def run_to(came, row, state, room):
    """Tell the start and a shortest run that comes to a row in a state, of all that came, and asks for a room there."""
    run = [(row, room)]
    step = came[(row, state)]
    while step is not None:
        row, state, room = step
        run.append((row, room))
        step = came[(row, state)]
    run.reverse()
    return (state, run)
