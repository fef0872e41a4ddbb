"""What the tests of shares use: markets, and plain trial of all pairings and parties."""

from itertools import combinations, permutations

from examples import small_markets
from pairtrials import pairings_by_trial

from swaphouse.markets import Market


def all_small():
    """All markets of up to three people."""
    return [market for names in ([], ["a"], ["b", "a"], ["b", "c", "a"]) for market in small_markets(names)]


def random_market(chance, names, part):
    """A market in which each names each other one with a chance, in any order."""
    rows = {name: [other for other in chance.sample(names, len(names)) if other != name and chance.random() < part]
            for name in names}
    return Market(names, rows)


def some_markets(chance, many, sizes):
    return [random_market(chance, list("fbdaec")[:chance.choice(sizes)], chance.choice([0.5, 0.8, 1, 1])) for _ in range(many)]


def some_with_odd_ring(chance, many, sizes):
    """So many markets that have no firm pairing."""
    found = []
    while len(found) < many:
        found += [market for market in some_markets(chance, 50, sizes) if not firm_by_trial(market)]
    return found[:many]


def blocks(many):
    """So many markets as [14]'s S, laid side by side: each has two firm pairings by itself."""
    rows = {}
    for at in range(many):
        names = [f"{sign}{at}" for sign in "abcd"]
        for place, name in enumerate(names):
            rows[name] = [names[(place + 1) % 4], names[(place + 3) % 4]]
    # Whoever is of another block is liked less.
    return Market(list(rows), {name: rows[name] + [other for other in rows if other[1:] != name[1:]] for name in rows})


def two_sides(many):
    """Two sides of so many people, first choices of the one being last ones of the other: as many firm pairings."""
    ones, others = [f"a{at}" for at in range(many)], [f"b{at}" for at in range(many)]
    rows = {}
    for at in range(many):
        rows[ones[at]] = others[at:] + others[:at]
        rows[others[at]] = ones[at + 1:] + ones[:at + 1]
    return Market(ones + others, rows)


def sharing_by_trial(market):
    rows = market.wishes()
    return {name: [other for other in rows[name] if name in rows[other]] for name in rows}


def place_of(row, person, thing):
    return len(row) if thing in (person, None) else row.index(thing)


def leaving_by_trial(market, has):
    """All pairs who may share and each like the other better than whom it has, being alone behind all."""
    rows = sharing_by_trial(market)
    return [(one, other) for one, other in combinations(sorted(rows), 2) if other in rows[one]
            and rows[one].index(other) < place_of(rows[one], one, has[one])
            and rows[other].index(one) < place_of(rows[other], other, has[other])]


def mates_in_order(pairing):
    return [pairing[name] or "" for name in sorted(pairing)]


def firm_by_trial(market):
    """All firm pairings, ascending by the lists of mates."""
    return sorted([told for told in pairings_by_trial(market) if not leaving_by_trial(market, told)], key=mates_in_order)


def rings_in(thing):
    """The rings of people going on, from the least one, ascending."""
    found = []
    for start in sorted(thing):
        ring = [start]
        while thing[ring[-1]] != start:
            ring.append(thing[ring[-1]])
        if start == min(ring):
            found.append(ring)
    return found


def orders_of(market):
    """All dicts from all people to unlike ones, each itself or one with whom it may share."""
    rows = sharing_by_trial(market)
    for others in permutations(rows):
        if all(other == name or other in rows[name] for name, other in zip(rows, others)):
            yield dict(zip(rows, others))


def fault_by_trial(market, thing):
    """By the words of [57], of such a dict."""
    rows = sharing_by_trial(market)
    rings = rings_in(thing)
    ahead = {other: name for name, other in thing.items()}
    even = sorted(name for ring in rings if len(ring) in (4, 6, 8) for name in ring)
    if even:
        return ("ring", even[0])
    turned = sorted(name for ring in rings if len(ring) > 2 for name in ring
                    if rows[name].index(thing[name]) > rows[name].index(ahead[name]))
    if turned:
        return ("turned", turned[0])
    left = leaving_by_trial(market, ahead)
    return ("leave",) + left[0] if left else None


def parties_by_trial(market):
    return [thing for thing in orders_of(market) if fault_by_trial(market, thing) is None]
