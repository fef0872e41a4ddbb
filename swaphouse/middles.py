"""What stands in the middle of firm pairings, and ways from one to another."""

from swaphouse.errors import BadPairings
from swaphouse.firmlists import check_firm, rows_with_firm
from swaphouse.given import is_list
from swaphouse.switchlists import all_sides, unlike_at


def pairings_fault(firm, thing):
    """The index of the first thing that is no firm pairing, how many there are if they are even, or None."""
    if not is_list(thing):
        return 0
    for index, pairing in enumerate(thing):
        if pairing not in firm:
            return index
    return len(thing) if len(thing) % 2 == 0 else None


def middle_mate(row, mates):
    """The one that stands in the middle of a person's mates; who is alone is so in all firm pairings."""
    if mates[0] is None:
        return None
    places = sorted([row.index(mate) for mate in mates])
    return row[places[len(places) // 2]]


def middle(market, pairings):
    rows, firm = rows_with_firm(market)
    wrong = pairings_fault(firm, pairings)
    if wrong is not None:
        raise BadPairings(wrong)
    return {person: middle_mate(row, [pairing[person] for pairing in pairings]) for person, row in rows.items()}


def firm_and_sides(market, one, other):
    """The pair of all firm pairings and of the sides in each, behind a check that one and other are among them."""
    rows, firm = rows_with_firm(market)
    check_firm(firm, one)
    check_firm(firm, other)
    return (firm, all_sides(rows, firm))


def apart(market, one, other):
    firm, told = firm_and_sides(market, one, other)
    return unlike_at(told[firm.index(one)], told[firm.index(other)])


def way(market, one, other):
    firm, told = firm_and_sides(market, one, other)
    at = firm.index(one)
    goal = told[firm.index(other)]
    passed = [firm[at]]
    while told[at] != goal:
        at = next_on_way(told, at, goal)
        passed.append(firm[at])
    return passed


def next_on_way(told, at, goal):
    """The index of the first sides that are one switch away from those at an index, and one nearer to the goal."""
    far = len(unlike_at(told[at], goal))
    for index, here in enumerate(told):
        if len(unlike_at(here, told[at])) == 1 and len(unlike_at(here, goal)) < far:
            return index
    return at
