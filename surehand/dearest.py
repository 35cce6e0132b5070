"""The dearest run of a web that ends, with a paper that none is dearer."""

from surehand.costs import ended_rows, is_ending, look_at_costs, priced, told_cost
from surehand.errors import Endless
from surehand.lays import look_at_many, stands
from surehand.runs import asks_of
from surehand.shelves import look_at_kind
from surehand.webs import look_at_web


def dearest(web, size=4, way="last", near=1, far=10):
    """Tell the cost of a dearest run, what lay there first, the run, and a paper with this cost."""
    look_at_web(web)
    look_at_kind(size, way)
    look_at_many(web, size, way)
    if not is_ending(web):
        raise Endless("a run of the web goes on without end")
    look_at_costs(near, far)
    table = stands(web, size, way)
    steps = [{} for row in web]
    # Each row behind those to which it leads, so that what these cost is known.
    for row in ended_rows(web):
        for lay in table[row]:
            steps[row][lay] = dearest_step(web[row], lay, steps, way, near, far)
    paper = [[(lay, steps[row][lay][0]) for lay in lays] for row, lays in enumerate(table)]
    cost = told_cost(paper)
    first = [lay for lay, number in paper[0] if number == cost][0]
    return (cost, first, run_by(steps, first), paper)


def dearest_step(row, lay, steps, way, near, far):
    """Tell a dearest step from a row: what it and all behind it cost, its room, its to, and the lay behind it."""
    rooms, tos = row
    found = []
    for room in asks_of(rooms):
        behind, price = priced(lay, room, way, near, far)
        if len(tos) == 0:
            found.append((price, room, None, behind))
        for to in tos:
            found.append((price + steps[to][behind][0], room, to, behind))
    return max(found, key=lambda step: step[0])


def run_by(steps, lay):
    """Tell the run that goes by the steps told for rows and lays, from row 0 with this lay."""
    run = []
    row = 0
    while row is not None:
        number, room, to, behind = steps[row][lay]
        run.append((row, room))
        row = to
        lay = behind
    return run
