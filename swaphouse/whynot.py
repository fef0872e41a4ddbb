"""Why somebody has not what it would like."""

from swaphouse.closedlots import lot_of
from swaphouse.errors import NotFirm
from swaphouse.firmness import share_fault
from swaphouse.likes import is_better
from swaphouse.lotpapers import paper_of
from swaphouse.markets import check_market, rows_of
from swaphouse.pointing import all_rings, dealt, rounds_by
from swaphouse.taking import Taking, near_by_needs


def why_not(market, person, other):
    rows = rows_of(market, [person, other])
    rings = all_rings(rounds_by(rows))
    thing = dealt(rings)[person]
    if thing == other:
        return ("has",)
    if is_better(rows[person], person, thing, other):
        return ("less",)
    lot = lot_of(rows, rings, other)
    return ("gone", [ring for ring in rings if ring[0] in lot])


def why_left(market, needs, person):
    near = near_by_needs(market, needs, [person])
    for one, others in Taking(near, needs).left():
        if one == person:
            return paper_of(near, others)
    return None


def why_not_share(market, pairing, person, other):
    check_market(market)
    if share_fault(market, pairing) is not None:
        raise NotFirm(pairing)
    rows = rows_of(market, [person, other])
    mate = pairing[person]
    if mate == other:
        return ("has",)
    if other not in rows[person] or (mate is not None and is_better(rows[person], person, mate, other)):
        return ("less",)
    return ("taken", pairing[other])
