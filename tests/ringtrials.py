"""What the tests of rings of any length use: plain trial of all handings."""

import random
from itertools import permutations, product

from examples import small_markets
from pairtrials import lot_markets

from swaphouse.markets import Market

# a and b, c and d want one another first; round the ring of four all are served.
RING = Market(["a", "b", "c", "d"], {"a": ["b", "c"], "b": ["a", "d"], "c": ["a"], "d": ["b"]})


def some_markets():
    """All markets of up to three people, rows being lots, some of four."""
    found = small_markets([]) + small_markets(["a"])
    for names in (["b", "a"], ["b", "c", "a"]):
        found += lot_markets(names)
    return found + random.Random(111).sample(lot_markets(["c", "a", "d", "b"]), 150)


def larger_markets(chance, many, sizes):
    """So many markets of five and six people, or of these sizes, some naming nobody."""
    found = []
    for _ in range(many):
        names = ["p" + str(at) for at in range(chance.choice(sizes))]
        part = chance.choice([0.2, 0.4, 0.7])
        found.append(Market(names, {name: [other for other in names if other != name and chance.random() < part]
                                    for name in names if chance.random() < 0.85}))
    return found


def gives(handing, name):
    return any(handing[other] == name for other in handing if other != name)


def is_handing(market, givers, handing):
    """By the words of [46]."""
    rows = market.wishes()
    if set(handing) != set(rows):
        return False
    things = [thing for thing in handing.values() if thing is not None]
    if len(set(things)) < len(things):
        return False
    for name, thing in handing.items():
        if thing not in (name, None) and thing not in rows[name]:
            return False
        if (thing is None) != (name in givers and gives(handing, name)):
            return False
        if gives(handing, name) and thing == name:
            return False
    return True


def handings_by_trial(market, givers):
    rows = market.wishes()
    choices = [[name] + rows[name] + [None] * (name in givers) for name in rows]
    found = [dict(zip(rows, things)) for things in product(*choices)]
    return [handing for handing in found if is_handing(market, givers, handing)]


def many_served(handing):
    return len([name for name, thing in handing.items() if thing not in (name, None)])


def pay_by_trial(market, givers, heights):
    """By the words of [47]."""
    total = 0
    for name, row in market.wishes().items():
        if row:
            total += max([0] + [1 + heights[name] - heights[other] for other in row])
        elif name in givers:
            total += heights[name]
    return total


def allotments(market):
    """All allotments of a market."""
    rows = market.wishes()
    found = [dict(zip(rows, things)) for things in permutations(rows)]
    return [deal for deal in found if all(thing == name or thing in rows[name] for name, thing in deal.items())]


def is_in_threes(deal):
    return all(name in (deal[deal[name]], deal[deal[deal[name]]]) for name in deal)
