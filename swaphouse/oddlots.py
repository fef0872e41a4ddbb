"""Odd lots: the paper that no pairing serves more."""

from swaphouse.errors import BadLots
from swaphouse.growing import best_mates, left_at_times
from swaphouse.lotpapers import lots_fault, paper_of
from swaphouse.markets import rows_of
from swaphouse.pairings import near_of


def odd_lots(market):
    near = near_of(rows_of(market, []))
    return paper_of(near, left_at_times(near, best_mates(near)))


def odd_lots_fault(market, thing):
    return lots_fault(near_of(rows_of(market, [])), thing)


def left_at_least(market, thing):
    if odd_lots_fault(market, thing) is not None:
        raise BadLots(thing)
    few, lots = thing
    return max(0, len(lots) - len(few))
