"""How things go round: people who are left point to the best thing left, closed rings leave.

Rows here are a dict from all people to their rows, as market.wishes() tells them.
"""


def rings_of(points):
    """The ascending list of the rings that people close who point to one another; None is pointing to nobody."""
    rings = []
    walk_of = {}
    for start in sorted(points):
        path = []
        person = start
        while person is not None and person not in walk_of:
            walk_of[person] = start
            path.append(person)
            person = points[person]
        if person is not None and walk_of[person] == start:
            rings.append(from_least(path[path.index(person):]))
    return sorted(rings)


def from_least(ring):
    at = ring.index(min(ring))
    return ring[at:] + ring[:at]


class Crowd:
    """People who are left, each pointing to the best thing left; one of them, perhaps, points to nobody."""

    def __init__(self, rows, silent):
        self._rows = rows
        self._places = {person: 0 for person in rows}
        self._left = {person: True for person in rows}
        self._silent = silent

    def points(self):
        """Whose thing each who is left points to, None for the silent one."""
        told = {}
        for person in self._left:
            told[person] = None if person == self._silent else self._best(person)
        return told

    def _best(self, person):
        row = self._rows[person]
        at = self._places[person]
        while at < len(row) and row[at] not in self._left:
            at += 1
        # Who has left never comes back, so what was passed over stays so.
        self._places[person] = at
        return row[at] if at < len(row) else person

    def leave(self, rings):
        for ring in rings:
            for person in ring:
                del self._left[person]


def rounds_by(rows):
    """The list of rounds, each the ascending list of its rings."""
    crowd = Crowd(rows, None)
    told = []
    rings = rings_of(crowd.points())
    while rings:
        told.append(rings)
        crowd.leave(rings)
        rings = rings_of(crowd.points())
    return told


def points_without(rows, person):
    """Whom all point to who are left when no more rings close though the person points to nobody."""
    crowd = Crowd(rows, person)
    points = crowd.points()
    rings = rings_of(points)
    while rings:
        crowd.leave(rings)
        points = crowd.points()
        rings = rings_of(points)
    return points


def rings_by_people(rings):
    return {person: ring for ring in rings for person in ring}


def dealt(rings):
    """The dict, ascending, from all people of the rings to whose thing each gets."""
    told = {}
    for ring in rings:
        for person, other in zip(ring, ring[1:] + ring[:1]):
            told[person] = other
    return {person: told[person] for person in sorted(told)}


def all_rings(rounds):
    """The rings of all rounds, round by round."""
    return [ring for rings in rounds for ring in rings]


def firm_by(rows):
    """The allotment that comes of the rounds."""
    return dealt(all_rings(rounds_by(rows)))


def with_rows(rows, told):
    """The rows when some people tell other ones."""
    return {person: told.get(person, rows[person]) for person in rows}
