"""Who can be served together: people are taken one behind another, so that nobody taken is left again.

Ties here are a dict, near, from all people, ascending, to the ascending lists of those to whom each is tied.
"""

from swaphouse.errors import BadNeeds
from swaphouse.growing import Growth, turned
from swaphouse.markets import rows_of
from swaphouse.notices import needs_fault
from swaphouse.pairings import near_of


def ways_in(near, mates, keep, person):
    """A pair (row, others): a row by which somebody alone is served, all to keep still being so, and None.

    Or None, and the people, all to keep but the person itself, who can be left alone in its place.
    """
    growth = Growth(near, mates, person)
    if growth.row() is not None:
        return (growth.row(), None)
    others = growth.people()
    for one in others:
        if one != person and one not in keep:
            return (growth.way(one), None)
    return (None, others)


class Taking:
    """What comes of taking each of some people who can be served together with all who are taken by then."""

    def __init__(self, near, names):
        self._mates = {person: None for person in near}
        self._taken = {}
        self._left = []
        for name in names:
            self._take(near, name)

    def _take(self, near, name):
        if self._mates[name] is None:
            row, others = ways_in(near, self._mates, self._taken, name)
            if row is None:
                self._left.append((name, others))
                return
            self._mates = turned(self._mates, row)
        self._taken[name] = True

    def mates(self):
        """Whom each has, so that all who are taken are served, and, if all people were named, just these."""
        return dict(self._mates)

    def taken(self):
        return list(self._taken)

    def left(self):
        """The pairs (person, others) of those not taken, with whom could be left alone in place of each, and itself."""
        return [(person, list(others)) for person, others in self._left]


def near_by_needs(market, needs, people):
    """The ties of a market, behind a check of needs, and that each thing in people is a person of it."""
    near = near_of(rows_of(market, []))
    wrong = needs_fault(near, needs)
    if wrong is not None:
        raise BadNeeds(wrong)
    rows_of(market, people)
    return near
