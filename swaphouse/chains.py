"""Chains: how one's ring and another's thing hang together."""

from swaphouse.given import is_list, is_row_of
from swaphouse.likes import better_things, is_better
from swaphouse.markets import rows_of
from swaphouse.pointing import all_rings, dealt, rings_by_people, rounds_by


def chain_to(market, person, other):
    rows = rows_of(market, [person, other])
    rings = all_rings(rounds_by(rows))
    gets = dealt(rings)
    ring_by = rings_by_people(rings)
    pairs_to = {one: [] for one in ring_by[other]}
    waiting = [other]
    at = 0
    while at < len(waiting) and person not in pairs_to:
        ring = ring_by[waiting[at]]
        for one in ring:
            for two in better_things(rows[one], one, gets[one]):
                if two not in pairs_to:
                    waiting.append(two)
                    for three in ring_by[two]:
                        pairs_to[three] = pairs_to[one] + [(one, two)]
        at += 1
    return pairs_to.get(person)


def is_chain_to(market, person, other, thing):
    rows = rows_of(market, [person, other])
    if not is_list(thing):
        return False
    rings = all_rings(rounds_by(rows))
    gets = dealt(rings)
    ring_by = rings_by_people(rings)
    ring = ring_by[other]
    for pair in thing:
        if not is_row_of(pair, 2) or pair[0] not in ring:
            return False
        one, two = pair
        # What one likes better is named in its row, so two is a person here.
        if not is_better(rows[one], one, two, gets[one]):
            return False
        ring = ring_by[two]
    return person in ring
