"""Whom all best pairings serve, some, or none, and which ties they have."""

from swaphouse.errors import NoTie
from swaphouse.growing import best_mates, left_at_times, pairs_in
from swaphouse.markets import rows_of
from swaphouse.pairings import in_order, near_apart, near_of, near_without


def most_in(near):
    return pairs_in(best_mates(near))


def person_kind(market, person):
    near = near_of(rows_of(market, [person]))
    if not near[person]:
        return "never"
    return "at times" if person in left_at_times(near, best_mates(near)) else "always"


def best_without(market, person):
    near = near_of(rows_of(market, [person]))
    mates = best_mates(near_without(near, [person]))
    if pairs_in(mates) < most_in(near):
        return None
    return in_order({**mates, person: None})


def near_tied(market, one, other):
    """The ties, behind a check that there is one of these two."""
    near = near_of(rows_of(market, [one, other]))
    if other not in near[one]:
        raise NoTie(one, other)
    return near


def mates_with(near, one, other):
    """Mates with the most pairs of which these two are one, None if most are without it."""
    mates = best_mates(near_without(near, [one, other]))
    if pairs_in(mates) + 1 < most_in(near):
        return None
    return in_order({**mates, one: other, other: one})


def mates_apart(near, one, other):
    """Mates with the most pairs of which these two are none, None if most are with it."""
    mates = best_mates(near_apart(near, one, other))
    return mates if pairs_in(mates) == most_in(near) else None


def tie_kind(market, one, other):
    near = near_tied(market, one, other)
    if mates_with(near, one, other) is None:
        return "none"
    return "all" if mates_apart(near, one, other) is None else "some"


def best_with(market, one, other):
    return mates_with(near_tied(market, one, other), one, other)


def best_apart(market, one, other):
    return mates_apart(near_tied(market, one, other), one, other)


def whom_to_find(market):
    near = near_of(rows_of(market, []))
    most = most_in(near)
    told = []
    for one in near:
        others = near_without(near, [one])
        mates = best_mates(others)
        if pairs_in(mates) == most:
            # Two whom one best pairing leaves are not tied, it would not be best else.
            told.extend([(one, other) for other in left_at_times(others, mates) if one < other])
    return told
