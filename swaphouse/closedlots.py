"""Closed lots: upon whom it hangs what a person gets."""

from swaphouse.likes import better_things
from swaphouse.markets import rows_of
from swaphouse.pointing import all_rings, dealt, rings_by_people, rounds_by


def lot_of(rows, rings, person):
    """The least lot that has the person, with each of its people its ring and those whose things it likes better."""
    ring_by = rings_by_people(rings)
    gets = dealt(rings)
    lot = {}
    waiting = [person]
    while waiting:
        last = waiting.pop()
        if last not in lot:
            lot[last] = True
            waiting.extend(ring_by[last])
            waiting.extend(better_things(rows[last], last, gets[last]))
    return sorted(lot)


def hangs_on(market, person):
    rows = rows_of(market, [person])
    return lot_of(rows, all_rings(rounds_by(rows)), person)
