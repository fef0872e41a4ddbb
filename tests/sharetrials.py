"""What the tests of shares use: markets, and plain trial of all pairings and parties."""

import inspect
import random
from itertools import combinations, permutations

from examples import any_objects, check_markets, notice_o, refused, small_markets
from pairtrials import pairings_by_trial

from swaphouse.errors import NoFirm, NotFirm
from swaphouse.markets import Market
from swaphouse.parties import odd_rings


def all_small():
    """All markets of up to three people."""
    return [market for names in ([], ["a"], ["b", "a"], ["b", "c", "a"]) for market in small_markets(names)]


def random_market(chance, names, part):
    """A market in which each names each other one with a chance, in any order."""
    rows = {name: [other for other in chance.sample(names, len(names)) if other != name and chance.random() < part]
            for name in names}
    return Market(names, rows)


def some_markets(chance, many, sizes):
    return [random_market(chance, list("fbdaec")[:chance.choice(sizes)], chance.choice([0.5, 0.8, 1, 1])) for _ in range(many)]


def some_with_odd_ring(chance, many, sizes):
    """So many markets that have no firm pairing."""
    found = []
    while len(found) < many:
        found += [market for market in some_markets(chance, 50, sizes) if not firm_by_trial(market)]
    return found[:many]


def blocks(many):
    """So many markets as [14]'s S, laid side by side: each has two firm pairings by itself."""
    rows = {}
    for at in range(many):
        names = [f"{sign}{at}" for sign in "abcd"]
        for place, name in enumerate(names):
            rows[name] = [names[(place + 1) % 4], names[(place + 3) % 4]]
    # Whoever is of another block is liked less.
    return Market(list(rows), {name: rows[name] + [other for other in rows if other[1:] != name[1:]] for name in rows})


def two_sides(many):
    """Two sides of so many people, first choices of the one being last ones of the other: as many firm pairings."""
    ones, others = [f"a{at}" for at in range(many)], [f"b{at}" for at in range(many)]
    rows = {}
    for at in range(many):
        rows[ones[at]] = others[at:] + others[:at]
        rows[others[at]] = ones[at + 1:] + ones[:at + 1]
    return Market(ones + others, rows)


def sharing_by_trial(market):
    rows = market.wishes()
    return {name: [other for other in rows[name] if name in rows[other]] for name in rows}


def place_of(row, person, thing):
    return len(row) if thing in (person, None) else row.index(thing)


def leaving_by_trial(market, has):
    """All pairs who may share and each like the other better than whom it has, being alone behind all."""
    rows = sharing_by_trial(market)
    return [(one, other) for one, other in combinations(sorted(rows), 2) if other in rows[one]
            and rows[one].index(other) < place_of(rows[one], one, has[one])
            and rows[other].index(one) < place_of(rows[other], other, has[other])]


def mates_in_order(pairing):
    return [pairing[name] or "" for name in sorted(pairing)]


def firm_by_trial(market):
    """All firm pairings, ascending by the lists of mates."""
    return sorted([told for told in pairings_by_trial(market) if not leaving_by_trial(market, told)], key=mates_in_order)


def rings_in(thing):
    """The rings of people going on, from the least one, ascending."""
    found = []
    for start in sorted(thing):
        ring = [start]
        while thing[ring[-1]] != start:
            ring.append(thing[ring[-1]])
        if start == min(ring):
            found.append(ring)
    return found


def orders_of(market):
    """All dicts from all people to unlike ones, each itself or one with whom it may share."""
    rows = sharing_by_trial(market)
    for others in permutations(rows):
        if all(other == name or other in rows[name] for name, other in zip(rows, others)):
            yield dict(zip(rows, others))


def fault_by_trial(market, thing):
    """By the words of [57], of such a dict."""
    rows = sharing_by_trial(market)
    rings = rings_in(thing)
    ahead = {other: name for name, other in thing.items()}
    even = sorted(name for ring in rings if len(ring) in (4, 6, 8) for name in ring)
    if even:
        return ("ring", even[0])
    turned = sorted(name for ring in rings if len(ring) > 2 for name in ring
                    if rows[name].index(thing[name]) > rows[name].index(ahead[name]))
    if turned:
        return ("turned", turned[0])
    left = leaving_by_trial(market, ahead)
    return ("leave",) + left[0] if left else None


def parties_by_trial(market):
    return [thing for thing in orders_of(market) if fault_by_trial(market, thing) is None]


def with_several(chance, many, least=2):
    """So many markets of six people with at least so many firm pairings."""
    found = []
    while len(found) < many:
        found += [market for market in some_markets(chance, 50, [6]) if len(firm_by_trial(market)) >= least]
    return found[:many]


def firm_markets(chance, many, several):
    """Small markets that have a firm pairing: all of up to three people, some of four to six, some with two and more."""
    found = all_small() + some_markets(chance, many, [4, 5, 6]) + [two_sides(2), two_sides(3), blocks(1), blocks(2)]
    return [market for market in found + with_several(chance, several) if firm_by_trial(market)]


def lies_between(rows, third, one, other):
    """By the words of [62]."""
    for name, row in rows.items():
        if one[name] is not None:
            places = sorted([row.index(one[name]), row.index(other[name])])
            if not places[0] <= row.index(third[name]) <= places[1]:
                return False
    return True


def are_neighbours(rows, firm, one, other):
    """By the words of [63]."""
    return one != other and not any(lies_between(rows, third, one, other) for third in firm if third not in (one, other))


def ring_between(one, other):
    """The ring by which two pairings differ, told as a switch."""
    unlike = {name: (one[name], other[name]) for name in one if one[name] != other[name]}
    ring = [min(unlike), min(unlike[min(unlike)])]
    while len(ring) < len(unlike):
        ring.append([name for name in unlike[ring[-1]] if name != ring[-2]][0])
    return ring


def switches_by_trial(market, firm):
    rows = sharing_by_trial(market)
    found = []
    for one, other in combinations(firm, 2):
        if are_neighbours(rows, firm, one, other):
            ring = ring_between(one, other)
            found += [ring] if ring not in found else []
    return sorted(found)


def side_by_trial(rows, pairing, switch):
    """By the words of [63]."""
    row = rows[switch[0]]
    mate, second, last = (row.index(name) for name in (pairing[switch[0]], switch[1], switch[-1]))
    beyond = mate < second if second < last else mate > second
    return 0 if mate == second or beyond else 1


def check_no_firm(case, *functions):
    """NoFirm comes behind BadMarket, ahead of all other errors, with a new list each time."""
    check_markets(case, *functions)
    for market in [notice_o().market()] + some_with_odd_ring(random.Random(162), 8, [4, 5, 6]):
        for function in functions:
            others = [None] * (len(inspect.signature(function).parameters) - 1)
            ring = refused(case, NoFirm, function, market, *others).ring
            case.assertEqual(odd_rings(market)[0], ring)
            case.assertIsInstance(ring, list)
            ring.append("x")
            case.assertEqual(odd_rings(market)[0], refused(case, NoFirm, function, market, *others).ring)


def check_not_firm(case, asked, firm):
    """Each object that is no firm pairing is refused with the very object, also such as are nearly one."""
    one = firm[0]
    first = min(one)
    wrong = [dict.fromkeys(one, first), {**one, first: first}, {**one, "zed": None}, list(one.items()), {}, {first: one[first]},
             {name: [mate] for name, mate in one.items()}, dict.fromkeys(one)]
    for thing in any_objects() + wrong:
        if thing not in firm:
            case.assertIs(thing, refused(case, NotFirm, asked, thing).pairing)
