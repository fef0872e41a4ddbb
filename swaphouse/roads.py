"""Fewest who would leave, and roads by which pair behind pair leaves, till what stands is of a party."""

from swaphouse.errors import Stays
from swaphouse.given import is_list, is_one_of, is_row_of
from swaphouse.markets import check_person
from swaphouse.pairings import in_order
from swaphouse.sharing import check_sharing, own_if_alone, pairs_leaving, sharing_rows, would_leave
from swaphouse.tables import goes_on, odd_rings_of, settled


def all_sharing(rows):
    """All pairings of people who may share."""
    told = [{}]
    for person, row in rows.items():
        here = [pairing for pairing in told if person in pairing]
        for pairing in told:
            if person not in pairing:
                mates = [other for other in row if other not in pairing]
                here.append({**pairing, person: None})
                here.extend([{**pairing, person: other, other: person} for other in mates])
        told = here
    return told


def fewest_leaving(market):
    rows = sharing_rows(market)
    fewest = None
    best = None
    for pairing in all_sharing(rows):
        number = len(pairs_leaving(rows, own_if_alone(pairing)))
        if fewest is None or number < fewest:
            fewest = number
            best = pairing
    return (fewest, in_order(best))


def pairing_behind(pairing, one, other):
    """The pairing when two share, and whom they had are alone."""
    told = {person: None if mate == one or mate == other else mate for person, mate in pairing.items()}
    told[one] = other
    told[other] = one
    return told


def left_by(market, pairing, one, other):
    rows = sharing_rows(market)
    check_sharing(rows, pairing)
    check_person(rows, one)
    check_person(rows, other)
    if not would_leave(rows, own_if_alone(pairing), one, other):
        raise Stays(one, other)
    return in_order(pairing_behind(pairing, one, other))


def shares_along(ring, pairing):
    """Whether just one of an odd ring is alone, everybody else sharing with the next one or the one ahead."""
    if len([person for person in ring if pairing[person] is None]) != 1:
        return False
    hands = list(zip(ring, ring[-1:] + ring[:-1], ring[1:] + ring[:1]))
    return all([pairing[person] is None or pairing[person] in (ahead, behind) for person, ahead, behind in hands])


def is_of_party(rows, points, pairing):
    """Whether a pairing is of a party; points are those of one, and all have the same odd rings."""
    told = own_if_alone(pairing)
    for ring in odd_rings_of(points):
        if not shares_along(ring, pairing):
            return False
        for person in ring:
            told[person] = points[person]
    return not pairs_leaving(rows, {other: person for person, other in told.items()})


def mates_key(pairing):
    return tuple([pairing[person] for person in sorted(pairing)])


def road(market, pairing):
    rows = sharing_rows(market)
    check_sharing(rows, pairing)
    points = goes_on(settled(rows))
    waiting = [(pairing, [])]
    seen = {mates_key(pairing): True}
    at = 0
    # What stands is come to by the first of the shortest lists, as pairs leave in their order.
    while not is_of_party(rows, points, waiting[at][0]):
        now, passed = waiting[at]
        for one, other in pairs_leaving(rows, own_if_alone(now)):
            behind = pairing_behind(now, one, other)
            key = mates_key(behind)
            if key not in seen:
                seen[key] = True
                waiting.append((behind, passed + [(one, other)]))
        at += 1
    return waiting[at][1]


def is_road(market, pairing, thing):
    rows = sharing_rows(market)
    check_sharing(rows, pairing)
    if not is_list(thing):
        return False
    now = pairing
    for pair in thing:
        if not is_row_of(pair, 2) or not all([is_one_of(name, rows) for name in pair]):
            return False
        one, other = pair
        if not would_leave(rows, own_if_alone(now), one, other):
            return False
        now = pairing_behind(now, one, other)
    return is_of_party(rows, goes_on(settled(rows)), now)
