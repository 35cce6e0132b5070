"""Runs of webs, and shelves along them."""

from surehand.errors import NoRun
from surehand.webs import look_at_web
from surehand.ways import is_room, is_whole

MOST_STEPS = 20000


def is_ask_of(rooms, thing):
    """Tell whether a row with these rooms may ask for it, None where the row has none."""
    if len(rooms) == 0:
        return thing is None
    return is_room(thing) and thing in rooms


def is_step(web, tos, thing):
    """Tell whether it is a step to one of these rows."""
    if not isinstance(thing, tuple) or len(thing) != 2:
        return False
    if not is_whole(thing[0]) or thing[0] not in tos:
        return False
    return is_ask_of(web[thing[0]][0], thing[1])


def look_at_run(web, thing):
    """Tell None of a run of the web, refuse everything else."""
    if not isinstance(thing, list) or not 1 <= len(thing) <= MOST_STEPS:
        raise NoRun(None)
    tos = (0,)
    for number, step in enumerate(thing):
        if not is_step(web, tos, step):
            raise NoRun(number)
        tos = web[step[0]][1]


def is_run(web, thing):
    """Tell whether it is a run of the web."""
    look_at_web(web)
    try:
        look_at_run(web, thing)
    except NoRun:
        return False
    return True


def along(web, run, shelf):
    """Tell for each step of a run from the shelf whether its room was at hand, None where none is asked for."""
    look_at_web(web)
    look_at_run(web, run)
    going = shelf.twin()
    told = []
    for row, room in run:
        told.append(None if room is None else going.ask(room))
    return told
