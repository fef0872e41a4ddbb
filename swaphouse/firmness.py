"""Judging pairings and parties of people who share."""

from swaphouse.given import are_unlike, has_just
from swaphouse.likes import is_better
from swaphouse.pointing import rings_of
from swaphouse.sharing import check_sharing, is_sharing, may_have, own_if_alone, pairs_leaving, sharing_rows


def leaving(market, pairing):
    rows = sharing_rows(market)
    check_sharing(rows, pairing)
    return pairs_leaving(rows, own_if_alone(pairing))


def first_leaving(rows, has):
    """What tells of the first pair that would leave, None if none would."""
    pairs = pairs_leaving(rows, has)
    return ("leave", pairs[0][0], pairs[0][1]) if pairs else None


def share_fault(market, thing):
    rows = sharing_rows(market)
    if not is_sharing(rows, thing):
        return ("form",)
    return first_leaving(rows, own_if_alone(thing))


def goes_round(rows, thing):
    """Whether any object is a dict from all people to unlike ones, each itself or one with whom it may share."""
    if not has_just(thing, rows) or not are_unlike(list(thing.values()), rows):
        return False
    return all([thing[person] == person or may_have(rows, person, thing[person]) for person in rows])


def party_fault(market, thing):
    rows = sharing_rows(market)
    if not goes_round(rows, thing):
        return ("form",)
    rings = rings_of(thing)
    for ring in rings:
        if len(ring) > 2 and len(ring) % 2 == 0:
            return ("ring", ring[0])
    ahead = {thing[person]: person for person in rows}
    for person in sorted([one for ring in rings if len(ring) > 2 for one in ring]):
        if not is_better(rows[person], person, thing[person], ahead[person]):
            return ("turned", person)
    return first_leaving(rows, ahead)
