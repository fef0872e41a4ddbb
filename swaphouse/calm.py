"""Where no pairing is firm: calm pairings, in which no two of those who share would leave."""

from swaphouse.given import check_number
from swaphouse.pairings import in_order
from swaphouse.pointing import rings_of
from swaphouse.sharing import is_sharing, own_if_alone, pairs_leaving, rows_without, sharing_rows
from swaphouse.tables import goes_on, odd_ones, settled


def most_sharing(rows):
    return len(rows) - len(odd_ones(rows))


def odd_count(market):
    return len(odd_ones(sharing_rows(market)))


def most_paired(market):
    return most_sharing(sharing_rows(market))


def calm_by(points):
    """The pairing in which all share along the rings of a party, the first one of each odd ring being left."""
    told = {}
    for ring in rings_of(points):
        left = len(ring) % 2
        for one in ring[:left]:
            told[one] = None
        for one, other in zip(ring[left::2], ring[left + 1::2]):
            told[one] = other
            told[other] = one
    return in_order(told)


def calm_pairing(market):
    return calm_by(goes_on(settled(sharing_rows(market))))


def is_calm(market, thing):
    rows = sharing_rows(market)
    if not is_sharing(rows, thing):
        return False
    pairs = pairs_leaving(rows, own_if_alone(thing))
    return not any([thing[one] is not None and thing[other] is not None for one, other in pairs])


def calm_paper(market, number):
    rows = sharing_rows(market)
    check_number(number)
    return None if number <= most_sharing(rows) else goes_on(settled(rows))


def may_be_left(market):
    rows = sharing_rows(market)
    many = len(odd_ones(rows))
    return [person for person in rows if len(odd_ones(rows_without(rows, person))) < many]


def surely_paired(market):
    left = may_be_left(market)
    return [person for person in sharing_rows(market) if person not in left]
