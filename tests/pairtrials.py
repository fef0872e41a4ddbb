"""What the tests of pairings by ties use: small markets, larger ones of many kinds, and plain trial of all pairings."""

import functools
from itertools import combinations, permutations, product

from examples import crowd, small_markets

from swaphouse.markets import Market

# Wrong needs of the market of [14]'s P, and the indexes of what is wrong.
NEEDS_CASES = [(["ann", "bo", "cy", "dan"], 4), ([], 0), (["ann", "ann"], 1), (["zed"], 0), (["eve", "cy", "ann", "bo", 0], 4),
               (["eve", "cy", "ann", "bo", "dan", "dan"], 5), (["eve", ["cy"]], 1), (["eve", None, "eve"], 1),
               (("eve", "cy", "cy", "bo", "dan"), 2), (["eve", "cy", "ann", "bo", "dan", "zed"], 5), ([True], 0)]


def tied(names, pairs):
    """The market in which just these are tied, nobody naming anybody else."""
    rows = {name: [] for name in names}
    for one, other in pairs:
        rows[one].append(other)
        rows[other].append(one)
    return Market(names, rows)


def lot_markets(names):
    """All markets of the people, rows being lots: each lot in one order, ascending or descending by turns."""
    choices = []
    for name in names:
        others = [other for other in names if other != name]
        lots = [list(lot) for many in range(len(others) + 1) for lot in combinations(others, many)]
        choices.append([lot[::-1] if at % 2 else lot for at, lot in enumerate(lots)])
    return [Market(names, dict(zip(names, rows))) for rows in product(*choices)]


@functools.lru_cache(maxsize=None)
def all_small():
    """All markets of up to three people, in all orders, and all of four, rows being lots."""
    found = []
    for names in ([], ["a"], ["b", "a"], ["b", "c", "a"]):
        found += small_markets(names)
    return found + lot_markets(["c", "a", "d", "b"])


def some_small(chance, many):
    """So many of the small markets, and as many of five to seven people."""
    found = chance.sample(all_small(), many)
    for _ in range(many):
        names = crowd(chance.randint(5, 7))
        part = chance.choice([0.2, 0.4, 0.6, 0.8])
        found.append(tied(names, [pair for pair in combinations(names, 2) if chance.random() < part]))
    return found


def orders(chance, market, many):
    """So many orders of a market's people, or all there are."""
    found = list(permutations(sorted(market.people()))) if len(market.people()) < 5 else \
        [tuple(chance.sample(market.people(), len(market.people()))) for _ in range(many)]
    return [list(needs) for needs in chance.sample(found, min(many, len(found)))]


def near_by_trial(market):
    rows = market.wishes()
    return {one: tuple(sorted(other for other in rows[one] if one in rows[other])) for one in rows}


def ties_by_trial(market):
    near = near_by_trial(market)
    return [(one, other) for one in sorted(near) for other in near[one] if one < other]


@functools.lru_cache(maxsize=None)
def lists_of_ties(pairs):
    """All lists of unlike people's ties among these, each ascending."""
    if not pairs:
        return [()]
    first, rest = pairs[0], pairs[1:]
    apart = tuple(pair for pair in rest if not set(pair) & set(first))
    return [(first,) + behind for behind in lists_of_ties(apart)] + lists_of_ties(rest)


def pairing_of(market, pairs):
    told = {name: None for name in sorted(market.people())}
    for one, other in pairs:
        told[one] = other
        told[other] = one
    return told


def pairings_by_trial(market):
    """All pairings, the more ties the earlier, then by the ascending lists of ties."""
    lists = sorted(lists_of_ties(tuple(ties_by_trial(market))), key=lambda pairs: (-len(pairs), pairs))
    return [pairing_of(market, pairs) for pairs in lists]


def served_in(pairing):
    return {name for name in pairing if pairing[name] is not None}


def best_by_trial(market):
    """All pairings that serve most, by the ascending lists of ties."""
    found = pairings_by_trial(market)
    return [pairing for pairing in found if len(served_in(pairing)) == len(served_in(found[0]))]


def all_lots_papers(names):
    """All pairs of a lot of few and of ascending lots, of any number of people, all unlike."""
    names = sorted(names)
    for owners in product(range(-2, len(names)), repeat=len(names)):
        groups = {}
        for name, owner in zip(names, owners):
            groups.setdefault(owner, []).append(name)
        lots = [groups[owner] for owner in sorted(groups) if owner >= 0]
        # Each way to part people into lots once: lots are numbered as their first people come.
        if [owner for owner in groups if owner >= 0] == list(range(len(lots))):
            yield groups.get(-1, []), lots


def is_lots_paper_by_trial(market, few, lots):
    near = near_by_trial(market)
    for lot in lots:
        if len(lot) % 2 == 0 or any(other not in lot and other not in few for one in lot for other in near[one]):
            return False
    return True


def triangles(many):
    """A chain of triangles, each tied to the next one."""
    names = crowd(3 * many)
    pairs = []
    for at in range(0, len(names), 3):
        pairs += combinations(names[at:at + 3], 2)
        pairs += [(names[at + 2], names[at + 3])] if at + 3 < len(names) else []
    return tied(names, pairs)


def hung_on_few(few, sizes):
    """Lots of so many people, all tied among themselves, hung on a few by their first people."""
    names = crowd(few + sum(sizes))
    pairs = []
    at = few
    for size in sizes:
        pairs += combinations(names[at:at + size], 2)
        pairs += [(one, names[at]) for one in names[:few]]
        at += size
    return tied(names, pairs)


def ring_in_ring(many):
    """Rings of odd length each of whose people stands for such a ring, and so on, as far as so many people reach."""
    names = crowd(many)
    pairs = set()
    left = [[name] for name in names]
    while len(left) >= 3:
        joined = []
        for at in range(0, len(left) - 2, 3):
            groups = left[at:at + 3]
            for one, other in ((0, 1), (1, 2), (0, 2)):
                pairs.add((groups[one][-1], groups[other][0]))
            joined.append(groups[0] + groups[1] + groups[2])
        left = joined + left[len(left) - len(left) % 3:] if len(left) % 3 else joined
    return tied(names, sorted(tuple(sorted(pair)) for pair in pairs))


def large_markets(chance, many):
    """Markets of so many people of many kinds."""
    names = crowd(many)
    every = list(combinations(names, 2))
    third = many // 3
    found = [tied(names, []), tied(names, every), triangles(third), ring_in_ring(many),
             hung_on_few(4, [5] * ((many - 4) // 5)), hung_on_few(third, [1] * (many - third)),
             tied(names, [(one, other) for one in names[:third] for other in names[third:]]),
             tied(names, list(zip(names, names[1:]))), tied(names, list(zip(names, names[1:] + names[:1]))),
             Market(names, {name: names[:at] for at, name in enumerate(names)})]
    for part in (0.03, 0.06, 0.1, 0.5):
        found.append(tied(names, [pair for pair in every if chance.random() < part]))
    return found
