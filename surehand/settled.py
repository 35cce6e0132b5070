"""What is settled of an ask, by any way and size, with a table of lays or with two runs."""

from surehand.lays import is_lay_with, lays_come, lets_stands, look_at_many, table_of
from surehand.runs import along, ends_with, run_to
from surehand.shelves import Shelf, look_at_kind
from surehand.sure import is_answer
from surehand.webs import look_at_ask, look_at_web, rooms_in


def settled(web, row, room, size=4, way="last"):
    """Tell what is settled of an ask on shelves of this size and way."""
    look_at_web(web)
    look_at_ask(web, row, room)
    look_at_kind(size, way)
    look_at_many(web, size, way)
    came = lays_come(web, size, way)
    near = [lay for at, lay in came if at == row and room in lay[0]]
    far = [lay for at, lay in came if at == row and room not in lay[0]]
    word = word_for(len(near), len(far))
    if word != "some":
        return (word, table_of(came, web))
    return (word, run_to(came, row, near[0], room), run_to(came, row, far[0], room))


def word_for(near, far):
    """Tell the word of an ask to which runs come with so many lays that have the room, and so many that haven't."""
    if near == 0 and far == 0:
        return "unmet"
    if far == 0:
        return "always"
    return "never" if near == 0 else "some"


def all_words(web, size, way):
    """Tell the words of all asks of a web, tuples (row, room, word), sorted."""
    lays = [[] for row in web]
    for row, lay in lays_come(web, size, way):
        lays[row].append(lay)
    told = []
    for row, (rooms, tos) in enumerate(web):
        for room in rooms:
            near = len([lay for lay in lays[row] if room in lay[0]])
            told.append((row, room, word_for(near, len(lays[row]) - near)))
    return told


def lets_settled(web, row, room, thing, size=4, way="last"):
    """Tell whether it is an answer to what is settled of an ask."""
    look_at_web(web)
    look_at_ask(web, row, room)
    look_at_kind(size, way)
    look_at_many(web, size, way)
    if not is_answer(thing):
        return False
    if thing[0] == "some":
        return (shows_lay(web, row, room, thing[1], size, way, True)
                and shows_lay(web, row, room, thing[2], size, way, False))
    if not lets_stands(web, thing[1], size, way):
        return False
    lays = thing[1][row]
    if thing[0] == "unmet":
        return len(lays) == 0
    return len(lays) > 0 and all([(room in lay[0]) == (thing[0] == "always") for lay in lays])


def shows_lay(web, row, room, thing, size, way, near):
    """Tell whether it is a tuple of a lay and a run to an ask at which the room is at hand, or isn't, as told."""
    if not isinstance(thing, tuple) or len(thing) != 2:
        return False
    lay, run = thing
    if not is_lay_with(lay, rooms_in(web), size, way) or not ends_with(web, run, row, room):
        return False
    return along(web, run, Shelf(size, way, lay[0], lay[1]))[-1] == near
