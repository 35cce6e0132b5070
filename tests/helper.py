"""Odd things, and shelves, runs and programs told anew in another manner, for the tests."""

from itertools import combinations, permutations, product
from math import comb, perm

WAYS = ("last", "first", "tree")
SIZES = {"last": range(1, 9), "first": range(1, 9), "tree": (1, 2, 4, 8)}


class Angry:
    """A thing that bears no question but of what class it is."""

    def refuse(self, *told):
        raise AssertionError("an odd thing was asked something")

    __eq__ = __ne__ = __lt__ = __le__ = __gt__ = __ge__ = refuse
    __hash__ = __len__ = __bool__ = __iter__ = __contains__ = __getitem__ = refuse
    __str__ = __repr__ = __int__ = __index__ = __add__ = __radd__ = refuse


def nested(times, make, inner):
    """Put a thing within itself so many times."""
    for _ in range(times):
        inner = make(inner)
    return inner


def odd_things():
    """Things that are no whole numbers, no lists and no tuples."""
    return [None, True, False, "", "0", "1", "last", "size", b"", b"last", {}, {0: 1}, {"a": 1},
            set(), {0}, frozenset(), range(3), object(), object, len, Angry()]


def odd_lists():
    """Lists and tuples that are nothing here: no lay, no term, no row, no step."""
    ring = []
    ring.append(ring)
    return [[None], [[]], [()], [{}], [0], ["a"], [Angry()], ring, [ring], (ring,), (None,), ("",), (0,), ((),),
            (Angry(),), (Angry(), Angry()), [(Angry(), Angry())], ("ask",), (("ask", (1,)),),
            nested(5000, lambda inner: [inner], 0), nested(5000, lambda inner: (inner,), 0),
            nested(5000, lambda inner: ("then", (inner,)), ("rest",))]


def shown(thing):
    """Tell a thing in words, also one that bears no question."""
    try:
        return repr(thing)
    except (AssertionError, RecursionError):
        return "a thing that can't be shown"


def tree_slots(slots, bits, bit, low, high, room):
    """Ask by tree for a room that isn't at hand among the slots from low to high; change slots."""
    if high - low == 1:
        slots[low] = room
        return
    middle = (low + high) // 2
    if bits[bit] == 0:
        tree_slots(slots, bits, 2 * bit + 1, low, middle, room)
    else:
        tree_slots(slots, bits, 2 * bit + 2, middle, high, room)


def tree_bits(bits, bit, low, high, at):
    """Turn all bits over the slot at away from it; change bits."""
    if high - low == 1:
        return
    middle = (low + high) // 2
    bits[bit] = 1 if at < middle else 0
    if at < middle:
        tree_bits(bits, 2 * bit + 1, low, middle, at)
    else:
        tree_bits(bits, 2 * bit + 2, middle, high, at)


def told_lay(lay, room, way):
    """What `asked` must tell, reckoned in another manner."""
    slots, bits = list(lay[0]), list(lay[1])
    near = room in slots
    if way == "tree":
        if not near:
            tree_slots(slots, bits, 0, 0, len(slots), room)
        tree_bits(bits, 0, 0, len(slots), slots.index(room))
    elif way == "last" and near:
        slots.remove(room)
        slots.insert(0, room)
    elif not near:
        slots.pop()
        slots.insert(0, room)
    return ((tuple(slots), tuple(bits)), near)


def all_bits(size, way):
    """All bits that a shelf may have."""
    return list(product((0, 1), repeat=size - 1)) if way == "tree" else [()]


def some_slots(size):
    """Slots with rooms and empty ones at any place."""
    found = [(-1,) * size, tuple(range(size)), tuple(range(99, 99 - size, -1))]
    for empties in range(size):
        found.append(tuple(-1 if (slot + empties) % (empties + 2) == 0 else 10 + slot for slot in range(size)))
        found.append(tuple(-1 if slot == empties else 20 + slot for slot in range(size)))
        found.append(tuple(30 + slot if slot == empties else -1 for slot in range(size)))
    return found


def small_lays(way, size):
    """All lays with the rooms 0 to 2 and empty slots."""
    found = set()
    for slots in permutations((0, 1, 2) + (-1,) * size, size):
        for bits in all_bits(size, way):
            found.add((slots, bits))
    return sorted(found)


def lists_of_term(term, book, longest):
    """All lists of rooms up to this length that the runs of a term ask for."""
    word = term[0]
    if word == "ask":
        return {(room,) for room in term[1]}
    if word == "rest":
        return {()}
    if word == "call":
        return lists_of_term(book[term[1]], book, longest)
    if word == "fork":
        return set().union(*[lists_of_term(one, book, longest) for one in term[1]])
    if word == "then":
        lists = {()}
        for one in term[1]:
            lists = behind_one_another(lists, lists_of_term(one, book, longest), longest)
        return lists
    return lists_of_round(term[1], term[2], lists_of_term(term[3], book, longest), longest)


def chance_term(chance, depth, names):
    """A term by chance."""
    word = chance.choice(("ask", "ask", "rest", "call", "then", "fork", "round", "ring"))
    if word == "call" and names:
        return ("call", chance.choice(names))
    if word == "rest":
        return ("rest",)
    if depth == 1 or word in ("ask", "call"):
        return ("ask", tuple(sorted(chance.sample(range(1, 6), chance.choice((1, 1, 1, 2))))))
    if word == "then":
        return ("then", tuple(chance_term(chance, depth - 1, names) for _ in range(chance.randint(1, 3))))
    if word == "fork":
        return ("fork", tuple(chance_term(chance, depth - 1, names) for _ in range(chance.randint(2, 3))))
    least = chance.randint(0, 2)
    most = None if word == "ring" else least + chance.randint(0, 2)
    return ("round", least, most, chance_term(chance, depth - 1, names))


def chance_program(chance):
    """A program by chance."""
    names = ["a", "bb", "ccc", "dddd"][:chance.randint(1, 4)]
    return [(name, chance_term(chance, chance.randint(1, 4), names[number + 1:]))
            for number, name in enumerate(names)]


def behind_one_another(heads, tails, longest):
    """Each head with each tail behind it, up to this length."""
    return {head + tail for head in heads for tail in tails if len(head) + len(tail) <= longest}


def lists_of_round(least, most, once, longest):
    """All lists up to this length of a term that is gone so many times."""
    # Without a bound, rounds that ask for something are at most as many as the list is long.
    top = least + longest if most is None else most
    lists, so_far = set(), {()}
    for times in range(top + 1):
        if times >= least:
            lists |= so_far
        so_far = behind_one_another(so_far, once, longest)
    return lists


def lists_of_program(program, longest):
    """All lists of rooms up to this length that the runs of a program ask for."""
    return {one for one in lists_of_term(program[0][1], dict(program), longest) if len(one) <= longest}


def lists_of_web(web, longest):
    """All lists of rooms up to this length that the runs of a web to a row without tos ask for."""
    seen, ahead, lists = {(0, ())}, [(0, ())], set()
    while ahead:
        row, so_far = ahead.pop()
        rooms, tos = web[row]
        for told in [so_far + (room,) for room in rooms] or [so_far]:
            if len(told) > longest:
                continue
            if not tos:
                lists.add(told)
            for to in tos:
                if (to, told) not in seen:
                    seen.add((to, told))
                    ahead.append((to, told))
    return lists


# Rings, rows without rooms, with several, without tos, that lead to themselves, to which no run comes; row 0 met again.
WEBS = [
    [((), ())],
    [((), (0,))],
    [((7,), ())],
    [((7,), (0,))],
    [((1, 2, 3), (0,))],
    [((1,), (1,)), ((2,), (0, 2)), ((1, 3), ())],
    [((1, 5), (1, 2)), ((), (0, 3)), ((1,), (2, 3)), ((0, 99), ()), ((5,), (0, 4))],
    [((), (1, 2)), ((4,), (3,)), ((5,), (3,)), ((), (0, 4)), ((4, 6), ()), ((9,), (4, 5)), ((4,), ())],
    [((0,), (1,)), ((1,), (2,)), ((2,), (3,)), ((3,), (4,)), ((0, 4), (1, 5)), ((0,), ())],
    [((8,), (1,)), ((), (2, 3)), ((2, 3), (1,)), ((8,), (4,)), ((2,), (5,)), ((8,), ()), ((3, 8), (6,))],
    [((1,), (1, 3)), ((2,), (2,)), ((3,), (0,)), ((1, 2), (4,)), ((3, 4), (3, 5)), ((1, 2, 3, 4), (5,))],
    [((), (2,)), ((1,), (2,)), ((1,), (0, 3)), ((), ()), ((2,), (1,))],
    [((2,), (1,)), ((2,), (2,)), ((3,), (3,)), ((4,), (4,)), ((2,), ())],
]


def chance_web(chance, most_rows, rooms, most_tos):
    """A web by chance with some of these rooms."""
    rows = chance.randint(1, most_rows)
    return [(tuple(sorted(chance.sample(rooms, min(len(rooms), chance.choice((0, 1, 1, 1, 2, 3)))))),
             tuple(sorted(chance.sample(range(rows), chance.randint(0, min(rows, most_tos))))))
            for _ in range(rows)]


def some_webs(chance, many):
    """The webs above, and so many by chance."""
    return WEBS + [chance_web(chance, 7, range(chance.randint(1, 5)), 3) for _ in range(many)]


def rooms_of_web(web):
    """The rooms of a web, rising."""
    return sorted(set().union(*[rooms for rooms, _ in web]))


def all_asks(web):
    """All asks of a web, tuples (row, room)."""
    return [(row, room) for row, (rooms, _) in enumerate(web) for room in rooms]


def since_sets(web, room):
    """For each row the since-sets of all runs that come there, tuples (set, whether the run is new to the room)."""
    found = [set() for _ in web]
    ahead = [(0, frozenset(), True)]
    while ahead:
        row, since, new = ahead.pop()
        if (since, new) in found[row]:
            continue
        found[row].add((since, new))
        rooms, tos = web[row]
        for asked in rooms or (None,):
            told = (frozenset(), False) if asked == room else (since | ({asked} - {None}), new)
            ahead.extend((to, *told) for to in tos)
    return found


def by_many(sets):
    """Sets as rising tuples, sorted by how many rooms they have, then by these."""
    return sorted((tuple(sorted(one)) for one in sets), key=lambda one: (len(one), one))


def told_leasts(web, room):
    """What `least_sets` must tell, reckoned in another manner."""
    table = []
    for found in since_sets(web, room):
        sets = {since for since, _ in found}
        table.append(by_many(one for one in sets if not any(other < one for other in sets)))
    return table


def told_greatests(web, room):
    """What `greatest_sets` must tell, reckoned in another manner."""
    table = []
    for found in since_sets(web, room):
        sets = {since for since, _ in found}
        greatest = by_many(one for one in sets if not any(one < other for other in sets))
        table.append([None] if any(new for _, new in found) else greatest)
    return table


def state(shelf):
    """All of a Shelf that a run might change."""
    return (shelf.size(), shelf.way(), shelf.lay(), shelf.counts())


def chance_run(chance, web, longest):
    """A run of the web by chance."""
    run, row = [], 0
    for _ in range(longest):
        rooms, tos = web[row]
        run.append((row, chance.choice(rooms) if rooms else None))
        if not tos:
            break
        row = chance.choice(tos)
    return run


def lays_of_web(web, size, way):
    """All lays of a web, sorted, found in another manner."""
    things = rooms_of_web(web)
    slots = {one for many in range(min(size, len(things)) + 1) for some in combinations(things, many)
             for one in spread_out(some, size)}
    return sorted((one, bits) for one in slots for bits in all_bits(size, way))


def spread_out(rooms, size):
    """All slots with just these rooms, in any order, at any places."""
    for places in permutations(range(size), len(rooms)):
        slots = [-1] * size
        for place, room in zip(places, rooms):
            slots[place] = room
        yield tuple(slots)


def told_stands(web, size, way):
    """What `stands` must tell, reckoned in another manner."""
    table = [set() for _ in web]
    table[0].update(lays_of_web(web, size, way))
    news = [set(lays) for lays in table]
    while any(news):
        come = [set() for _ in web]
        for (rooms, tos), lays in zip(web, news):
            behind = {told_lay(lay, room, way)[0] for lay in lays for room in rooms} if rooms else lays
            for to in tos:
                come[to] |= behind
        news = [one - lays for one, lays in zip(come, table)]
        table = [one | lays for one, lays in zip(news, table)]
    return [sorted(lays) for lays in table]


def how_many_lays(web, size, way):
    """What `lays_many` must tell, reckoned in another manner."""
    rooms = len(rooms_of_web(web))
    return sum(comb(rooms, many) * perm(size, many) for many in range(size + 1)) * len(all_bits(size, way))


def word_of(lays, room):
    """The word that must be told of an ask at a row at which just these lays may lie."""
    near = {room in slots for slots, _ in lays}
    return {(): "unmet", (True,): "always", (False,): "never", (False, True): "some"}[tuple(sorted(near))]


def line(asks):
    """A web with these rooms at its rows, each row leading to the next one."""
    return [(tuple(rooms), (row + 1,) if row + 1 < len(asks) else ()) for row, rooms in enumerate(asks)]


def unlike_sizes(way):
    """All tuples of a lesser and a greater size of a way."""
    return list(combinations(SIZES[way], 2))


def no_bits(size, way):
    """The lay of an empty shelf, all bits 0."""
    return ((-1,) * size, (0,) * (size - 1) if way == "tree" else ())


def told_pairs(web, lesser, size, way, most):
    """For each row all pairs of lays that come there from two empty shelves; None where they are more than most."""
    table, many = [set() for _ in web], 0
    ahead = [(0, no_bits(lesser, way), no_bits(size, way))]
    while ahead:
        row, lay, other = ahead.pop()
        if (lay, other) in table[row]:
            continue
        table[row].add((lay, other))
        many += 1
        if many > most:
            return None
        rooms, tos = web[row]
        for room in rooms:
            ahead.extend((to, told_lay(lay, room, way)[0], told_lay(other, room, way)[0]) for to in tos)
        if not rooms:
            ahead.extend((to, lay, other) for to in tos)
    return table


def ends(web):
    """Whether no run of the web goes on without end: whether none has a row twice."""
    ahead = [(0,)]
    while ahead:
        rows = ahead.pop()
        for to in web[rows[-1]][1]:
            if to in rows:
                return False
            ahead.append(rows + (to,))
    return True


def all_runs(web):
    """All runs of a web that ends, to rows without tos."""
    runs, ahead = [], [((), 0)]
    while ahead:
        run, row = ahead.pop()
        rooms, tos = web[row]
        for room in rooms or (None,):
            steps = run + ((row, room),)
            ahead.extend((steps, to) for to in tos)
            if not tos:
                runs.append(list(steps))
    return runs


def cost_of(run, lay, way, near, far):
    """What a run costs with this lay first."""
    cost = 0
    for _, room in run:
        if room is not None:
            lay, at_hand = told_lay(lay, room, way)
            cost += near if at_hand else far
    return cost


def ending_web(chance, most_rows, rooms):
    """A web by chance of which no run goes on without end, perhaps with a ring to which none comes."""
    rows = chance.randint(1, most_rows)
    web = [(tuple(sorted(chance.sample(rooms, min(len(rooms), chance.choice((0, 1, 1, 2)))))),
            tuple(sorted(chance.sample(range(row + 1, rows), min(rows - row - 1, chance.choice((0, 1, 1, 2))))))
            ) for row in range(rows)]
    return web + chance.choice(([], [((rooms[0],), (0, rows))], [((), (rows + 1,)), ((rooms[-1],), (rows,))]))
