"""In whose place somebody who is left could be served."""

from swaphouse.growing import Growth, turned
from swaphouse.taking import Taking, near_by_needs


def ways_instead(near, mates, person):
    """By whom could be left alone in a person's place, ascending, the rows that turn to it; {} of who is served."""
    if mates[person] is not None:
        return {}
    growth = Growth(near, mates, person)
    return {one: growth.way(one) for one in sorted(growth.people()) if one != person}


def in_whose_place(market, needs, person):
    near = near_by_needs(market, needs, [person])
    return list(ways_instead(near, Taking(near, needs).mates(), person))


def placed(market, needs, person, other):
    near = near_by_needs(market, needs, [person, other])
    mates = Taking(near, needs).mates()
    rows = ways_instead(near, mates, person)
    return turned(mates, rows[other]) if other in rows else None
