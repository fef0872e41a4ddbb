"""With whom people may share, what a pairing of them is, and who would leave it.

Rows here are a dict from all people, ascending, to those of their rows alone who name them, too, best first.
"""

from swaphouse.errors import BadPairing
from swaphouse.given import has_just, is_one_of
from swaphouse.likes import is_better
from swaphouse.markets import rows_of


def sharing_rows(market):
    rows = rows_of(market, [])
    return {person: [other for other in rows[person] if person in rows[other]] for person in rows}


def may_have(rows, person, other):
    """Whether any object is somebody with whom a person may share."""
    return is_one_of(other, rows) and other in rows[person]


def is_sharing(rows, thing):
    """Whether any object is a pairing: of just two who may share, back and forth."""
    if not has_just(thing, rows):
        return False
    if not all([thing[one] is None or may_have(rows, one, thing[one]) for one in rows]):
        return False
    return all([thing[one] is None or thing[thing[one]] == one for one in rows])


def check_sharing(rows, pairing):
    if not is_sharing(rows, pairing):
        raise BadPairing(pairing)


def own_if_alone(pairing):
    """What each has by a pairing: who is alone has itself."""
    return {person: person if mate is None else mate for person, mate in pairing.items()}


def would_leave(rows, has, one, other):
    """Whether two people may share and each like the other better than whom it has."""
    if other not in rows[one]:
        return False
    return is_better(rows[one], one, other, has[one]) and is_better(rows[other], other, one, has[other])


def pairs_leaving(rows, has):
    """The ascending list of the pairs who may share and like one another better than whom each has."""
    told = []
    for one, row in rows.items():
        for other in sorted(row):
            if one < other and would_leave(rows, has, one, other):
                told.append((one, other))
    return told


def rows_without(rows, person):
    """The rows when somebody is not there."""
    return {one: [other for other in row if other != person] for one, row in rows.items() if one != person}
