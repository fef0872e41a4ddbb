"""A ring that betters an allotment, or prices that show that none does."""

from swaphouse.alike import Steps
from swaphouse.errors import BadAllotment, BadMarket
from swaphouse.given import are_unlike, has_just, is_number
from swaphouse.likes import is_allotment
from swaphouse.markets import Market


def ranks_of(market):
    """The dict from all people to dicts from what each names, and its own, to places; what is liked alike has one."""
    if not isinstance(market, (Market, Steps)):
        raise BadMarket(market)
    rows = market.wishes()
    if isinstance(market, Market):
        rows = {person: [[thing] for thing in row + [person]] for person, row in rows.items()}
    return {person: ranks_in(steps) for person, steps in rows.items()}


def ranks_in(steps):
    return {thing: at for at, step in enumerate(steps) for thing in step}


def is_allotment_of(thing, ranks):
    """Whether any object is an allotment that gives each its own thing or one that it names."""
    return is_allotment(thing, ranks) and all([thing[person] in ranks[person] for person in ranks])


def exchanges(market, allotment):
    """By person the pairs (thing, better), ascending, of other ones' things it likes no less than what it gets."""
    ranks = ranks_of(market)
    if not is_allotment_of(allotment, ranks):
        raise BadAllotment(allotment)
    told = {}
    for person, places in ranks.items():
        has = places[allotment[person]]
        told[person] = [(thing, places[thing] < has) for thing in sorted(places)
                        if thing != person and places[thing] <= has]
    return told


def back_from(ways):
    """By thing the pairs (person, better) of those whom it could go to."""
    told = {person: [] for person in ways}
    for person, pairs in ways.items():
        for thing, better in pairs:
            told[thing].append((person, better))
    return told


def far_from(back, goal):
    """A pair of dicts: how many steps, at the fewest, lead from people to the goal, and how many with a better one."""
    plain = {goal: 0}
    bettered = {}
    waiting = [(goal, False)]
    at = 0
    while at < len(waiting):
        thing, found = waiting[at]
        far = bettered[thing] if found else plain[thing]
        for person, better in back[thing]:
            reached = bettered if found or better else plain
            if person not in reached:
                reached[person] = far + 1
                waiting.append((person, found or better))
        at += 1
    return (plain, bettered)


def first_ring(ways, start, plain, bettered):
    """The first of the shortest rings from start on in which somebody gets what it likes better.

    If no ring is shorter than those through start, nor as short through anybody ahead of it, it has people once each.
    """
    many = bettered[start]
    ring = [start]
    found = False
    while len(ring) < many:
        last = ring[-1]
        for thing, better in ways[last]:
            if steps_from(thing, found or better, plain, bettered) == many - len(ring):
                ring.append(thing)
                found = found or better
                break
    return ring


def steps_from(thing, found, plain, bettered):
    """How many steps lead on to the goal, None if none do; one who found a better thing needs no other one."""
    if found and thing in plain:
        # Whoever comes to the goal can go on round it, so it comes there with a better thing, too.
        return min(plain[thing], bettered[thing])
    return bettered.get(thing)


def bettering(market, allotment):
    ways = exchanges(market, allotment)
    back = back_from(ways)
    best = None
    for start in ways:
        plain, bettered = far_from(back, start)
        if start in bettered and (best is None or bettered[start] < len(best)):
            best = first_ring(ways, start, plain, bettered)
    return best


def is_bettering(market, allotment, thing):
    ways = exchanges(market, allotment)
    if not are_unlike(thing, ways) or len(thing) == 0 or thing[0] != min(thing):
        return False
    found = False
    for person, other in zip(list(thing), list(thing[1:]) + [thing[0]]):
        better = dict(ways[person]).get(other)
        if better is None:
            return False
        found = found or better
    return found


def prices(market, allotment):
    ways = exchanges(market, allotment)
    costs = {person: 0 for person in ways}
    # A price rises by one at most with each person on a way to it, unless the way comes round.
    for _ in range(len(ways) + 1):
        if not raise_prices(ways, costs):
            return costs
    return None


def raise_prices(ways, costs):
    """Raise what costs too little; whether anything did."""
    raised = False
    for person, pairs in ways.items():
        for thing, better in pairs:
            least = costs[person] + 1 if better else costs[person]
            if costs[thing] < least:
                costs[thing] = least
                raised = True
    return raised


def are_prices(market, allotment, thing):
    ways = exchanges(market, allotment)
    if not has_just(thing, ways) or not all([is_number(cost) for cost in list(thing.values())]):
        return False
    return not raise_prices(ways, dict(thing))
