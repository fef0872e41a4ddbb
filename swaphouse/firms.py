"""All firm pairings, listed."""

from swaphouse.errors import BadNumber
from swaphouse.firmlists import all_firm, check_firm, firm_rows
from swaphouse.given import is_number


def firm_pairings(market):
    return all_firm(firm_rows(market))


def firm_at(market, number):
    pairings = firm_pairings(market)
    if not is_number(number) or number >= len(pairings):
        raise BadNumber(number)
    return pairings[number]


def firm_number(market, pairing):
    pairings = firm_pairings(market)
    check_firm(pairings, pairing)
    return pairings.index(pairing)
