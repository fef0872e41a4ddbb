"""Two at a time: ties, pairings with the most of them, and rows that better others."""

from swaphouse.errors import NoBetterRow
from swaphouse.given import are_unlike
from swaphouse.growing import best_mates, pairs_in, row_from, turned
from swaphouse.markets import rows_of
from swaphouse.pairings import mates_in, near_of, pairing_fault


def ties(market):
    near = near_of(rows_of(market, []))
    return [(one, other) for one in near for other in near[one] if one < other]


def exchange_fault(market, thing):
    return pairing_fault(near_of(rows_of(market, [])), thing)


def most_pairs(market):
    return pairs_in(best_pairing(market))


def best_pairing(market):
    return best_mates(near_of(rows_of(market, [])))


def better_row(market, pairing):
    near = near_of(rows_of(market, []))
    return row_from(near, mates_in(near, pairing))


def betters_by(near, mates, thing):
    """Whether any object is a better row of the mates."""
    if not are_unlike(thing, near) or len(thing) == 0 or len(thing) % 2 == 1:
        return False
    if mates[thing[0]] is not None or mates[thing[-1]] is not None:
        return False
    if not all([other in near[one] for one, other in zip(thing[::2], thing[1::2])]):
        return False
    return all([mates[one] == other for one, other in zip(thing[1:-1:2], thing[2:-1:2])])


def is_better_row(market, pairing, thing):
    near = near_of(rows_of(market, []))
    return betters_by(near, mates_in(near, pairing), thing)


def bettered(market, pairing, row):
    near = near_of(rows_of(market, []))
    mates = mates_in(near, pairing)
    if not betters_by(near, mates, row):
        raise NoBetterRow(row)
    return turned(mates, row)
