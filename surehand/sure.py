"""What is sure of an ask on shelves kept by last, for all sizes by two numbers."""

from surehand.greatests import greatest_sets, lets_greatest
from surehand.leasts import least_sets, lets_least
from surehand.runs import all_states, along, ends_with, run_to
from surehand.shelves import Shelf, look_at_kind
from surehand.ways import EMPTY, are_slots
from surehand.webs import look_at_ask, look_at_web


def numbers(web, row, room):
    """Tell the sizes of the least and the greatest since-set of an ask, None where no run comes there."""
    look_at_web(web)
    look_at_ask(web, row, room)
    leasts = least_sets(web, room)[row]
    if len(leasts) == 0:
        return None
    # The sets of a row are sorted by how many rooms they have.
    most = greatest_sets(web, room)[row][-1]
    return (len(leasts[0]), None if most is None else len(most))


def sure(web, row, room, size=4):
    """Tell what is sure of an ask on shelves of this size, with a table or with two runs."""
    look_at_web(web)
    look_at_ask(web, row, room)
    look_at_kind(size, "last")
    leasts = least_sets(web, room)
    if len(leasts[row]) == 0:
        return ("unmet", leasts)
    least = leasts[row][0]
    if len(least) >= size:
        return ("never", leasts)
    greatests = greatest_sets(web, room)
    most = greatests[row][-1]
    if most is not None and len(most) < size:
        return ("always", greatests)
    return ("some", near_run(web, row, room, least, size), far_run(web, row, room, most, size))


def near_run(web, row, room, least, size):
    """Tell slots and a run to an ask whose since-set lies within least, so that the room is at hand."""
    # The state tells whether all that was asked since the room, or the begin, is in least.
    came = all_states(web, [True], lambda state, one: one == room or (state and one in least))
    start, run = run_to(came, row, True, room)
    # The run may be new to the room: then it is at hand as if it had been asked for just ahead.
    return ((room,) + (EMPTY,) * (size - 1), run)


def far_run(web, row, room, most, size):
    """Tell slots and a run to an ask that is new, or asks since for as many rooms of most as there are slots."""
    wanted = () if most is None else most[:size]
    came = all_states(web, [None], lambda state, one: asked_of(wanted, state, room, one))
    start, run = run_to(came, row, None if most is None else wanted, room)
    return ((EMPTY,) * size, run)


def asked_of(wanted, state, room, one):
    """Tell which of the wanted rooms were asked for since the room was, behind an ask of one; None where it wasn't."""
    if one == room:
        return ()
    if state is None or one in state or one not in wanted:
        return state
    return tuple(sorted(state + (one,)))


def lets_sure(web, row, room, thing, size=4):
    """Tell whether it is an answer to what is sure of an ask."""
    look_at_web(web)
    look_at_ask(web, row, room)
    look_at_kind(size, "last")
    if not is_answer(thing):
        return False
    if thing[0] == "some":
        return shows(web, row, room, thing[1], size, True) and shows(web, row, room, thing[2], size, False)
    if thing[0] == "always":
        return lets_greatest(web, room, thing[1]) and are_all_below(thing[1][row], size)
    if not lets_least(web, room, thing[1]):
        return False
    sets = thing[1][row]
    if thing[0] == "unmet":
        return len(sets) == 0
    return len(sets) > 0 and all([len(one) >= size for one in sets])


def is_answer(thing):
    """Tell whether it has the form of an answer: a word with a table or with two things more."""
    if not isinstance(thing, tuple) or not 2 <= len(thing) <= 3 or not isinstance(thing[0], str):
        return False
    return thing[0] in (("unmet", "always", "never") if len(thing) == 2 else ("some",))


def are_all_below(things, size):
    """Tell whether these are sets with fewer rooms than the size, one at least."""
    return len(things) > 0 and all([one is not None and len(one) < size for one in things])


def shows(web, row, room, thing, size, near):
    """Tell whether it is a tuple of slots and a run to an ask at which the room is at hand, or isn't, as told."""
    if not isinstance(thing, tuple) or len(thing) != 2:
        return False
    slots, run = thing
    if not are_slots(slots, size) or not ends_with(web, run, row, room):
        return False
    return along(web, run, Shelf(size, "last", slots))[-1] == near
