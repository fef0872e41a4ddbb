"""When pairs serve as many as rings of any length do."""

from swaphouse.growing import best_mates, pairs_in
from swaphouse.laying import Laying
from swaphouse.markets import rows_of
from swaphouse.pairings import near_of


def served_in_pairs(rows):
    return 2 * pairs_in(best_mates(near_of(rows)))


def pairs_enough(market):
    rows = rows_of(market, [])
    laying = Laying(rows, [])
    return laying.heights() if laying.served() <= served_in_pairs(rows) else None


def more_by_rings(market):
    rows = rows_of(market, [])
    laying = Laying(rows, [])
    if laying.served() <= served_in_pairs(rows):
        return None
    return {person: laying.has(person) for person in rows}
