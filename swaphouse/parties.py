"""Shares: parties, and what follows from them: a firm pairing, or an odd ring."""

from swaphouse.sharing import sharing_rows
from swaphouse.tables import ask_through, goes_on, odd_rings_of, settled


def asked_rows(market):
    rows = sharing_rows(market)
    ask_through(rows)
    return rows


def party(market):
    return goes_on(settled(sharing_rows(market)))


def odd_rings(market):
    return odd_rings_of(party(market))


def alone(market):
    return [person for person, other in party(market).items() if person == other]


def firm_pairing(market):
    points = party(market)
    if odd_rings_of(points):
        return None
    return {person: None if person == other else other for person, other in points.items()}
