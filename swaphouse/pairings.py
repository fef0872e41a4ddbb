"""Ties, two at a time, and the pairings that have ties alone.

Ties here are a dict, near, from all people, ascending, to the ascending lists of those to whom each is tied.
"""

from swaphouse.errors import BadPairing
from swaphouse.given import has_just, is_one_of


def near_of(rows):
    """To whom each is tied: those of its row who have it in theirs."""
    return {person: sorted([other for other in rows[person] if person in rows[other]]) for person in sorted(rows)}


def near_without(near, names):
    """The ties of all others, when these are not there."""
    return {person: [other for other in near[person] if other not in names] for person in near if person not in names}


def near_apart(near, one, other):
    """The ties without the one of these two."""
    told = dict(near)
    told[one] = [person for person in near[one] if person != other]
    told[other] = [person for person in near[other] if person != one]
    return told


def near_with(near, one, other):
    """The ties with one of these two besides."""
    told = dict(near)
    told[one] = sorted(near[one] + [other])
    told[other] = sorted(near[other] + [one])
    return told


def in_order(told):
    """A dict ascending by its keys."""
    return {key: told[key] for key in sorted(told)}


def pairing_fault(near, thing):
    """What is wrong with any object that should be a pairing, None if nothing is."""
    if not has_just(thing, near):
        return ("form",)
    if not all([one is None or is_one_of(one, near) for one in list(thing.values())]):
        return ("form",)
    for person in near:
        if thing[person] is not None and thing[person] not in near[person]:
            return ("no tie", person)
    for person in near:
        if thing[person] is not None and thing[thing[person]] != person:
            return ("one way", person)
    return None


def mates_in(near, pairing):
    """The pairing, ascending, behind a check that it is one."""
    if pairing_fault(near, pairing) is not None:
        raise BadPairing(pairing)
    return in_order(pairing)
