"""What is known of people's likings: pairs (better, worse) of things, and what follows from them through others.

Bits are an integer that stands for some of the things: each thing has a bit of its own.
"""

from swaphouse.errors import BadKnown, BadPeople, TurnsRound
from swaphouse.given import is_list, is_one_of, is_row_of
from swaphouse.names import people_fault
from swaphouse.turns import first_turn


def check_people(people):
    wrong = people_fault(people)
    if wrong is not None:
        raise BadPeople(wrong)


def is_pair(thing, names):
    """Whether any object is a pair of unlike names."""
    return is_row_of(thing, 2) and all([is_one_of(name, names) for name in thing]) and thing[0] != thing[1]


def is_known(thing, people):
    """Whether any object is a dict from people to lists of pairs of their unlike names."""
    if not isinstance(thing, dict):
        return False
    names = {name: True for name in people}
    for person, pairs in thing.items():
        if not is_one_of(person, names) or not is_list(pairs) or not all([is_pair(pair, names) for pair in pairs]):
            return False
    return True


def check_known(people, known):
    check_people(people)
    if not is_known(known, people):
        raise BadKnown(known)


class Liking:
    """What is known of one person's liking, through other things, too: what is better, and how all things may stand.

    If the liking turns, just those things stand in the order that no turn is ahead of.
    """

    def __init__(self, names, pairs):
        self._bits = {name: 1 << at for at, name in enumerate(names)}
        self._above = {name: 0 for name in names}
        self._lacks = {name: 0 for name in names}
        self._worse = {name: [] for name in names}
        for better, worse in pairs:
            self._worse[better].append(worse)
            self._lacks[worse] += 1
        self._order = [name for name in names if self._lacks[name] == 0]
        at = 0
        while at < len(self._order):
            self._pass_on(self._order[at])
            at += 1

    def _pass_on(self, name):
        """Tell all that are known to be worse than a thing what is better than they are."""
        bits = self._above[name] | self._bits[name]
        for worse in self._worse[name]:
            self._above[worse] = self._above[worse] | bits
            self._lacks[worse] -= 1
            if self._lacks[worse] == 0:
                self._order.append(worse)

    def turns(self):
        return len(self._order) < len(self._bits)

    def bits_of(self, names):
        return sum([self._bits[name] for name in names])

    def is_best(self, name, bits):
        """Whether none of the things that bits stand for is known to be liked better than a thing."""
        return (self._above[name] & bits) == 0

    def order(self):
        """All things in an order in which none stands ahead of one known to be better."""
        return list(self._order)

    def order_by(self, first):
        """Such an order in which just those stand ahead of a thing that are known to be better."""
        better = [name for name in self._order if (self._above[first] & self._bits[name]) != 0]
        return better + [first] + [name for name in self._order if name != first and name not in better]


def row_in(order, person):
    """The row by which things stand in this order, the own one ahead of all that are not named."""
    return order[:order.index(person)]


def likings_of(people, known):
    """The dict from all people, ascending, to what is known of their likings."""
    names = sorted(people)
    return {person: Liking(names, known.get(person, [])) for person in names}


def turn_among(likings, known):
    """The pair of the first person whose liking turns and the first ring by which it does, None if there is none."""
    for person, liking in likings.items():
        if liking.turns():
            return (person, first_turn(known[person]))
    return None


def fitting_likings(people, known):
    """Likings, as likings_of tells them, behind checks of people, of what is known, and that none of it turns."""
    check_known(people, known)
    likings = likings_of(people, known)
    told = turn_among(likings, known)
    if told is not None:
        person, ring = told
        raise TurnsRound(person, ring)
    return likings
