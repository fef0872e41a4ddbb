"""Lots that can be served, or a paper that no pairing serves all of them."""

from swaphouse.errors import BadLot
from swaphouse.given import first_wrong, is_list
from swaphouse.lotpapers import lots_fault, paper_of
from swaphouse.markets import rows_of
from swaphouse.pairings import near_of
from swaphouse.taking import Taking


def near_with_lot(market, lot):
    """The ties of a market, behind a check that lot is a list of unlike people of it."""
    near = near_of(rows_of(market, []))
    wrong = first_wrong(lot, lambda name: name in near) if is_list(lot) else 0
    if wrong is not None:
        raise BadLot(wrong)
    return near


def can_serve(market, lot):
    taking = Taking(near_with_lot(market, lot), lot)
    return None if taking.left() else taking.mates()


def serve_paper(market, lot):
    near = near_with_lot(market, lot)
    left = Taking(near, lot).left()
    return paper_of(near, left[0][1]) if left else None


def is_serve_paper(market, lot, thing):
    near = near_with_lot(market, lot)
    if lots_fault(near, thing) is not None:
        return False
    few, lots = thing
    return len(lots) > len(few) and all([person in lot for part in lots for person in part])
