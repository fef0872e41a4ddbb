"""Switches of firm pairings, the sides on which they stand, and what sides need one another."""

from swaphouse.errors import BadSides
from swaphouse.firmlists import check_firm, rows_with_firm
from swaphouse.given import is_number, is_row_of
from swaphouse.switchlists import all_sides, switches_of


def switches(market):
    rows, pairings = rows_with_firm(market)
    return switches_of(rows, pairings)


def sides(market, pairing):
    rows, pairings = rows_with_firm(market)
    check_firm(pairings, pairing)
    return all_sides(rows, pairings)[pairings.index(pairing)]


def needs_in(told):
    """The needs of sides, as the lists of sides of all firm pairings tell them, ascending."""
    many = len(told[0])
    needs = []
    for at in range(many):
        for side in (0, 1):
            here = [one for one in told if one[at] == side]
            for other_at in range(many):
                # Each switch stands on both sides somewhere, so one side at most is needed.
                if other_at != at and len(set([one[other_at] for one in here])) == 1:
                    needs.append((at, side, other_at, here[0][other_at]))
    return needs


def side_needs(market):
    rows, pairings = rows_with_firm(market)
    return needs_in(all_sides(rows, pairings))


def sides_told(market, thing):
    """All firm pairings, the sides in each of them, and what was passed as a list, behind a check that it is sides."""
    rows, pairings = rows_with_firm(market)
    told = all_sides(rows, pairings)
    if not is_row_of(thing, len(told[0])) or not all([is_number(side) and side <= 1 for side in thing]):
        raise BadSides(thing)
    return (pairings, told, list(thing))


def pairing_by(market, sides):
    pairings, told, here = sides_told(market, sides)
    return pairings[told.index(here)] if here in told else None


def broken_need(market, sides):
    _, told, here = sides_told(market, sides)
    for at, side, other_at, other_side in needs_in(told):
        if here[at] == side and here[other_at] != other_side:
            return (at, side, other_at, other_side)
    return None
