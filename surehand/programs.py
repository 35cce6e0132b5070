"""Programs: how they are looked at, their reach and their rooms."""

from surehand.errors import NoProgram
from surehand.ways import are_rooms, is_whole

SMALL_LETTERS = "abcdefghijklmnopqrstuvwxyz"
LONGEST_NAME = 6
MOST_TUPLES = 8
DEEPEST = 6
MOST_ROUNDS = 12


def are_letters(thing, most):
    """Tell whether it is a text of small letters, one at least and so many at most."""
    if not isinstance(thing, str) or not 1 <= len(thing) <= most:
        return False
    return all([sign in SMALL_LETTERS for sign in thing])


def is_name(thing):
    """Tell whether it is a name of a term."""
    return are_letters(thing, LONGEST_NAME)


def are_times(least, most):
    """Tell whether a round may go from least to most times."""
    if not is_whole(least) or not 0 <= least <= MOST_ROUNDS:
        return False
    return most is None or (is_whole(most) and least <= most <= MOST_ROUNDS)


def are_terms(thing, least, most, deep):
    """Tell whether it is a tuple of so many terms, none deeper than told."""
    if not isinstance(thing, tuple) or not least <= len(thing) <= most:
        return False
    return all([is_term(one, deep) for one in thing])


def is_term(thing, deep):
    """Tell whether it is a term, not deeper than told, whatever names it calls."""
    # The depth is looked at first, so that what is deeper is never gone into.
    if deep < 1 or not isinstance(thing, tuple) or len(thing) == 0 or not isinstance(thing[0], str):
        return False
    word = thing[0]
    if word == "rest":
        return len(thing) == 1
    if word == "round":
        return len(thing) == 4 and are_times(thing[1], thing[2]) and is_term(thing[3], deep - 1)
    if len(thing) != 2:
        return False
    if word == "ask":
        return are_rooms(thing[1], 1, 6)
    if word == "then":
        return are_terms(thing[1], 1, 8, deep - 1)
    if word == "fork":
        return are_terms(thing[1], 2, 6, deep - 1)
    return word == "call" and is_name(thing[1])


def is_named_term(thing):
    """Tell whether it is a tuple of a name and a term, whatever names it calls."""
    if not isinstance(thing, tuple) or len(thing) != 2:
        return False
    return is_name(thing[0]) and is_term(thing[1], DEEPEST)


def terms_within(term):
    """Tell the terms that stand directly within a term."""
    if term[0] in ("then", "fork"):
        return term[1]
    if term[0] == "round":
        return (term[3],)
    return ()


def calls_only(term, names):
    """Tell whether a term calls none but these names."""
    if term[0] == "call":
        return term[1] in names
    return all([calls_only(one, names) for one in terms_within(term)])


def names_behind(things, number):
    """Tell the names that stand behind a number in a list of anything."""
    return [thing[0] for thing in things[number + 1:]
            if isinstance(thing, tuple) and len(thing) == 2 and is_name(thing[0])]


def look_at_program(thing):
    """Tell None of a program, refuse everything else."""
    if not isinstance(thing, list) or not 1 <= len(thing) <= MOST_TUPLES:
        raise NoProgram(None)
    ahead = []
    for number, one in enumerate(thing):
        if not is_named_term(one) or one[0] in ahead or not calls_only(one[1], names_behind(thing, number)):
            raise NoProgram(number)
        ahead.append(one[0])


def reach_of(term, reaches):
    """Tell the reach of a term, by the reaches of the names that it calls."""
    word = term[0]
    if word == "ask" or word == "rest":
        return 1
    if word == "call":
        return reaches[term[1]]
    within = sum([reach_of(one, reaches) for one in terms_within(term)])
    if word == "fork":
        return within + 1
    if word == "round" and term[2] is None:
        return within * (term[1] + 1) + 1
    if word == "round":
        return within * term[2] + term[2] - term[1]
    return within


def reaches_of(program):
    """Tell the reach of each name's term, in a dict."""
    reaches = {}
    # From the last one on, since each one calls only what stands behind it.
    for name, term in reversed(program):
        reaches[name] = reach_of(term, reaches)
    return reaches


def reach(program):
    """Tell the reach of the first term of a program."""
    return reaches_of(program)[program[0][0]]


def asked_rooms(term):
    """Tell all rooms for which a term itself asks, perhaps some of them twice."""
    if term[0] == "ask":
        return list(term[1])
    rooms = []
    for one in terms_within(term):
        rooms.extend(asked_rooms(one))
    return rooms


def rooms_of(program):
    """Tell all rooms for which the terms of a program ask, rising."""
    rooms = []
    for name, term in program:
        rooms.extend(asked_rooms(term))
    return sorted(set(rooms))
