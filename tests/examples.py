"""What several tests use: the document's examples, any objects, and small markets, judged by plain trial."""

import copy
import inspect
from itertools import chain, combinations, permutations, product

from swaphouse.alike import Steps
from swaphouse.errors import BadMarket, BadRow, BadText, NoPerson, SwapError
from swaphouse.markets import Market
from swaphouse.notices import Notice
from swaphouse.sessions import Session

NAMES_N = ["ann", "bo", "cy", "dan", "eve", "fay"]
WISHES_N = {"ann": ["cy", "bo"], "bo": ["ann", "cy"], "cy": ["bo"], "dan": ["ann", "eve"], "eve": ["dan"],
            "fay": ["ann"]}
FIRM_N = {"ann": "cy", "bo": "ann", "cy": "bo", "dan": "eve", "eve": "dan", "fay": "fay"}


def market_n():
    return Market(NAMES_N, WISHES_N)


def notice_n():
    return Notice("rings", market_n(), [])


def notice_p():
    wishes = {"ann": ["bo", "cy"], "bo": ["ann", "cy", "dan", "eve"], "cy": ["ann", "bo"], "dan": ["bo"],
              "eve": ["bo"]}
    market = Market(["ann", "bo", "cy", "dan", "eve"], wishes)
    return Notice("pairs", market, ["eve", "cy", "ann", "bo", "dan"])


def notice_s():
    wishes = {"ann": ["bo", "dan"], "bo": ["cy", "ann"], "cy": ["dan", "bo"], "dan": ["ann", "cy"]}
    return Notice("shares", Market(["ann", "bo", "cy", "dan"], wishes), [])


def notice_o():
    wishes = {"ann": ["bo", "cy"], "bo": ["cy", "ann"], "cy": ["ann", "bo"]}
    return Notice("shares", Market(["ann", "bo", "cy"], wishes), [])


def deep(depth):
    thing = []
    for _ in range(depth):
        thing = [thing]
    return thing


def any_objects():
    """Objects of each kind that may be passed as any object."""
    plain = [0, 1, 2, -1, 7 ** 9, True, False, None, "", "a", "b", "ann", "rings", "pairs", "gets", "x y", "rule", "\n"]
    rows = [[], (), [[]], ([],), ["a"], ("a",), ["a", "a"], ["a", "b"], ["b", "a"], [0], [None], [True], [["a"]], [{}],
            [["a", "b"]], [("a", "b")], [("b", "a")], ["a", ["b"]], [[], []], ["a", 1], ["a", []], [[["a"]], ["a"]]]
    dicts = [{}, {"a": "a"}, {"a": 0}, {"a": []}, {"a": ["a"]}, {"a": [["a"]]}, {"a": "b", "b": "a"}, {0: 0}, {None: "a"},
             {("a", "b"): "a"}, {"a": None}, {"a": {}}, {"a": True, "b": False}, {"a": ["b"]}, {"a": [[]]}, {"a": len},
             {"ann": ["bo"]}, {"ann": "bo"}, {"a": [0]}, {"a": deep(90)}]
    own = [Market([], {}), Market(["a"], {}), Market(["a", "b"], {}), Steps([], {}), Steps(["a"], {}),
           Notice("rings", Market(["a"], {}), []), Session("pairs"), SwapError(), BadRow(0), BadText(1, 2)]
    functions = [len, any_objects, lambda thing: thing, Market(["a"], {}).people]
    told = [("gets", {}), ("with", []), ("gets", []), ["gets", {"a": "b"}], ("with", [("a", "b")]), ("rings", []),
            ("blocks", []), ["rings", [["a"]]], ("blocks", [("a", [], [])]), ("form", Market(["a"], {})), deep(95),
            ("own", Market(["a"], {}), "a"), [Market(["a"], {})], {"a": Market(["a"], {})}, [len], ([["a"]], ["a"])]
    return plain + rows + dicts + own + functions + told


def rows_of(others):
    """All rows of some of the others, ascending."""
    return sorted(list(row) for many in range(len(others) + 1) for row in permutations(others, many))


def small_markets(names):
    """All markets of the people."""
    choices = [rows_of([other for other in names if other != name]) for name in names]
    return [Market(names, dict(zip(names, rows))) for rows in product(*choices)]


def layered(things):
    """All ways to lay unlike things into steps, none empty."""
    if not things:
        return [[]]
    found = []
    for many in range(1, len(things) + 1):
        for first in combinations(things, many):
            rest = [thing for thing in things if thing not in first]
            found += [[list(first)] + steps for steps in layered(rest)]
    return found


def all_steps(name, others):
    """All rows of steps that a person can have."""
    found = []
    for many in range(len(others) + 1):
        for named in combinations(others, many):
            found += [steps for steps in layered(list(named) + [name]) if name in steps[-1]]
    return found


def small_steps(names):
    choices = [all_steps(name, [other for other in names if other != name]) for name in names]
    return [Steps(names, dict(zip(names, rows))) for rows in product(*choices)]


def places(market):
    """For each person a dict from what it names, its own too, to how far behind it stands."""
    if isinstance(market, Market):
        return {name: {thing: at for at, thing in enumerate(row + [name])} for name, row in market.wishes().items()}
    return {name: {thing: at for at, step in enumerate(steps) for thing in step}
            for name, steps in market.wishes().items()}


def place(market, person, thing):
    return places(market)[person].get(thing, 99)


def deals(names):
    names = sorted(names)
    return [dict(zip(names, things)) for things in permutations(names)]


def allotments_of(market):
    told = places(market)
    return [deal for deal in deals(market.people()) if all(deal[name] in told[name] for name in deal)]


def lots(names):
    names = sorted(names)
    return chain.from_iterable(combinations(names, many) for many in range(1, len(names) + 1))


def betters(told, allotment, deal):
    """Whether a deal of a lot leaves nobody of it worse off, by places, and somebody better."""
    ranks = [(told[name].get(thing, 99), told[name].get(allotment[name], 99)) for name, thing in deal.items()]
    return all(now <= ahead for now, ahead in ranks) and any(now < ahead for now, ahead in ranks)


def is_firm_by_trial(market, allotment):
    told = places(market)
    return not any(betters(told, allotment, deal) for lot in lots(market.people()) for deal in deals(lot))


def rings_by_trial(market, allotment):
    """All rings that better an allotment, the fewest people first."""
    told = places(market)
    rings = [list(ring) for lot in lots(market.people()) for ring in permutations(lot) if ring[0] == min(ring)]
    return [ring for ring in sorted(rings, key=lambda ring: (len(ring), ring))
            if betters(told, allotment, dict(zip(ring, ring[1:] + ring[:1])))]


def with_row(market, told):
    """The market in which some people tell other rows."""
    return Market(market.people(), {**market.wishes(), **told})


def crowd(many):
    """So many names, ascending."""
    return ["p" + str(at).zfill(3) for at in range(many)]


def refused(case, error, asked, *told, **named):
    """The error that is raised when something is asked."""
    with case.assertRaises(error) as caught:
        asked(*told, **named)
    case.assertIs(error, type(caught.exception))
    return caught.exception


def check_things(case, error, asked, is_good):
    """Whatever object is not good is refused with the very object."""
    for thing in any_objects():
        if not is_good(thing):
            case.assertIs(thing, refused(case, error, asked, thing).thing)


def check_markets(case, *functions):
    """BadMarket comes ahead of all other errors."""
    for function in functions:
        others = [None] * (len(inspect.signature(function).parameters) - 1)
        check_things(case, BadMarket, lambda thing: function(thing, *others), lambda thing: isinstance(thing, Market))


def check_persons(case, function, *ahead):
    """Each parameter behind those ahead, named person, one or other, is refused by NoPerson, ahead of those behind."""
    names = list(inspect.signature(function).parameters)[len(ahead):]
    while names and names[0] in ("person", "one", "other"):
        behind = [None] * (len(names) - 1)
        people = ahead[0].people()
        check_things(case, NoPerson, lambda thing: function(*ahead, thing, *behind),
                     lambda thing: isinstance(thing, str) and thing in people)
        ahead += (people[len(ahead) % len(people)],)
        names = names[1:]


def check_indexes(case, error, asked, cases):
    """What is no list is refused with index 0, each list of the cases with its index."""
    for thing in any_objects():
        if not isinstance(thing, (list, tuple)):
            case.assertEqual(0, refused(case, error, asked, thing).index)
    for thing, index in cases:
        case.assertEqual(index, refused(case, error, asked, thing).index)


def check_anew(case, function, *told):
    """What is told is new each time, nothing stands in two places of it, and what is passed is not changed."""
    kept = copy.deepcopy(told)
    first = function(*told)
    found = mutable_in(first)
    case.assertEqual(len(found), len({id(one) for one in found}))
    again = function(*told)
    case.assertFalse({id(one) for one in found} & {id(one) for one in mutable_in(again)})
    for one in found:
        one.clear()
    case.assertEqual(again, function(*told))
    case.assertEqual(kept, told)


def mutable_in(thing):
    """All lists and dicts in what is told, one behind another."""
    if isinstance(thing, dict):
        return [thing] + [one for part in thing.values() for one in mutable_in(part)]
    if isinstance(thing, (list, tuple)):
        return [thing] * isinstance(thing, list) + [one for part in thing for one in mutable_in(part)]
    return []


def turned_dict(thing):
    """The same dict in another order."""
    return {key: thing[key] for key in sorted(thing, reverse=True)}


def ascends(thing):
    return list(thing) == sorted(thing)
