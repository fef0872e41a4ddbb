"""How pairings grow: rows from somebody alone, by a tie and by whom people have, in turns.

Ties here are a dict, near, from all people to the ascending lists of those to whom each is tied, back and forth;
mates are a dict from all people to whom each has, None for who is alone.
"""


class Growth:
    """Whom one comes to from somebody alone, the root.

    A way to a person begins with the root, goes by a tie and by whom one has, in turns, and ends with the person, come
    to by whom it has: if it is turned, the root has somebody, and the person is alone in its place.
    """

    def __init__(self, near, mates, root):
        self._near = near
        self._mates = mates
        self._ways = {root: [root]}
        self._asked = {}
        self._waiting = [root]
        self._row = None
        at = 0
        while at < len(self._waiting) and self._row is None:
            self._look_from(self._waiting[at])
            at += 1

    def row(self):
        """A row to somebody else who is alone, None if there is none."""
        return self._row

    def people(self):
        """Whom ways lead to, the root first; all of them, if there is no row."""
        return list(self._waiting)

    def way(self, person):
        return list(self._ways[person])

    def _look_from(self, person):
        for other in self._near[person]:
            if other in self._ways:
                self._come_round(self._ways[person], self._ways[other])
                self._come_round(self._ways[other], self._ways[person])
            elif other not in self._asked:
                self._asked[other] = True
                way = self._ways[person] + [other]
                mate = self._mates[other]
                if mate is None:
                    self._row = way
                    return
                self._reach(mate, way + [mate])

    def _come_round(self, way, other_way):
        """A tie of the last ones of two ways leads back along the first one, as far as they are not the same."""
        for at in range(len(way) - 2, 0, -2):
            person = way[at]
            if person not in self._ways:
                if person in other_way:
                    return
                self._reach(person, other_way + way[at:][::-1])

    def _reach(self, person, way):
        self._ways[person] = way
        self._waiting.append(person)


def turned(mates, row):
    """The mates when first and second of a row have one another, third and fourth, and so on; an odd last one none."""
    told = dict(mates)
    for one, other in zip(row[::2], row[1::2]):
        told[one] = other
        told[other] = one
    if len(row) % 2 == 1:
        told[row[-1]] = None
    return told


def alone_in(mates):
    return [person for person in mates if mates[person] is None]


def pairs_in(mates):
    return (len(mates) - len(alone_in(mates))) // 2


def row_from(near, mates):
    """A row from somebody alone to somebody alone, None if there is none."""
    for person in alone_in(mates):
        row = Growth(near, mates, person).row()
        if row is not None:
            return row
    return None


def best_mates(near):
    """Mates with the most pairs."""
    mates = {person: None for person in near}
    for person in near:
        # From whom no row leads now, none leads when others have grown.
        row = Growth(near, mates, person).row() if mates[person] is None else None
        if row is not None:
            mates = turned(mates, row)
    return mates


def left_at_times(near, mates):
    """The ascending list of all whom some mates with the most pairs leave alone, as these are."""
    found = set()
    for root in alone_in(mates):
        for person in Growth(near, mates, root).people():
            found.add(person)
    return sorted(found)
