"""Rings: the rounds in which things go round, and the one firm allotment."""

from swaphouse.markets import rows_of
from swaphouse.pointing import firm_by, rounds_by


def rounds(market):
    return rounds_by(rows_of(market, []))


def firm_allotment(market):
    return firm_by(rows_of(market, []))


def is_firm(market, thing):
    firm = firm_allotment(market)
    return isinstance(thing, dict) and thing == firm
