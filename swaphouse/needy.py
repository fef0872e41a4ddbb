"""The needy first: who is served, by what pairing, and papers for all who are left."""

from swaphouse.lotpapers import paper_of
from swaphouse.pairings import pairing_fault
from swaphouse.taking import Taking, near_by_needs, ways_in


def served(market, needs):
    return Taking(near_by_needs(market, needs, []), needs).taken()


def needy_pairing(market, needs):
    return Taking(near_by_needs(market, needs, []), needs).mates()


def needy_fault(market, needs, thing):
    near = near_by_needs(market, needs, [])
    fault = pairing_fault(near, thing)
    if fault is not None:
        return fault
    keep = {}
    for person in needs:
        if thing[person] is not None:
            keep[person] = True
        elif ways_in(near, thing, keep, person)[0] is not None:
            return ("left", person)
    return None


def left_papers(market, needs):
    near = near_by_needs(market, needs, [])
    told = []
    for person, others in Taking(near, needs).left():
        few, lots = paper_of(near, others)
        told.append((person, few, lots))
    return told
