"""Rings of three people at most: most served by them, and papers that no more can be."""

from swaphouse.given import check_number, has_just, is_number, is_one_of, is_row_of
from swaphouse.laying import Laying, all_pay
from swaphouse.markets import rows_of
from swaphouse.pointing import dealt, from_least


def rows_among(rows, left):
    """The rows of those left, as if nobody else were there."""
    return {person: [other for other in rows[person] if other in left] for person in left}


def rings_through(rows, left, person):
    """The ascending list of the rings of two or three people left through one of them."""
    rings = []
    for other in rows[person]:
        if other in left and person in rows[other]:
            rings.append(from_least([person, other]))
        if other in left:
            thirds = [third for third in rows[other] if third in left and person in rows[third]]
            rings.extend([from_least([person, other, third]) for third in thirds])
    return sorted(rings)


def others_left(left, names):
    return [person for person in left if person not in names]


class Threes:
    """The rings of two or three by which most are served, for each list of people left."""

    def __init__(self, rows):
        self._rows = rows
        self._rings = {}

    def rings(self, left):
        """Such rings of an ascending list of people left."""
        if len(left) < 2:
            return []
        key = tuple(left)
        if key not in self._rings:
            self._rings[key] = self._best(left)
        return list(self._rings[key])

    def _best(self, left):
        best = self.rings(left[1:])
        for ring in rings_through(self._rows, left, left[0]):
            rings = [ring] + self.rings(others_left(left, ring))
            if many_in(rings) > many_in(best):
                best = rings
        return best


def many_in(rings):
    """How many people rings have."""
    return sum([len(ring) for ring in rings])


def most_in_threes(market):
    rows = rows_of(market, [])
    return many_in(Threes(rows).rings(list(rows)))


def threes_served(market, number):
    rows = rows_of(market, [])
    check_number(number)
    rings = Threes(rows).rings(list(rows))
    if many_in(rings) < number:
        return None
    served = [person for ring in rings for person in ring]
    return dealt(rings + [[person] for person in rows if person not in served])


def paper_for(rows, left, number):
    """A paper for people left, of whom no rings of three at most serve so many."""
    laying = Laying(rows_among(rows, left), [])
    if laying.served() < number:
        return ("heights", laying.heights())
    person = left[0]
    papers = []
    for ring in rings_through(rows, left, person):
        papers.append(paper_for(rows, others_left(left, ring), number - len(ring)))
    papers.append(paper_for(rows, left[1:], number))
    return ("cases", person, papers)


def threes_paper(market, number):
    rows = rows_of(market, [])
    check_number(number)
    people = list(rows)
    if many_in(Threes(rows).rings(people)) >= number:
        return None
    return paper_for(rows, people, number)


def is_paper_for(rows, left, number, thing):
    """Whether any object is a paper for people left and a number."""
    if is_row_of(thing, 2) and thing[0] == "heights":
        return pays_less(rows_among(rows, left), number, thing[1])
    if not is_row_of(thing, 3) or thing[0] != "cases" or not is_one_of(thing[1], left):
        return False
    rings = rings_through(rows, left, thing[1])
    if not is_row_of(thing[2], len(rings) + 1):
        return False
    for ring, paper in zip(rings, thing[2]):
        if not is_paper_for(rows, others_left(left, ring), number - len(ring), paper):
            return False
    return is_paper_for(rows, others_left(left, [thing[1]]), number, thing[2][-1])


def pays_less(rows, number, thing):
    """Whether any object is heights of just these people by which they pay less than the number."""
    if not has_just(thing, rows) or not all([is_number(height) for height in list(thing.values())]):
        return False
    return all_pay(rows, [], thing) < number


def is_threes_paper(market, number, thing):
    rows = rows_of(market, [])
    check_number(number)
    return is_paper_for(rows, list(rows), number, thing)
