"""In how many ways the things of a segment fit its people."""


def layers_of(people, bits, points):
    """For each number of people, who choose one behind another, the lots of things that they can have taken.

    A lot is a number that has the bit of each of its things.
    """
    layers = [[0]]
    for person in people:
        wider = {}
        for taken in layers[-1]:
            for thing in points[person]:
                if taken & bits[thing] == 0:
                    wider[taken | bits[thing]] = True
        layers.append(list(wider))
    return layers


def ways_behind(people, bits, points):
    """By the lot of things taken, in how many ways the people whose turn comes then can all choose."""
    layers = layers_of(people, bits, points)
    ways = {taken: 1 for taken in layers[-1]}
    for at in range(len(people) - 1, -1, -1):
        for taken in layers[at]:
            free = [bits[thing] for thing in points[people[at]] if taken & bits[thing] == 0]
            ways[taken] = sum([ways[taken | bit] for bit in free])
    return ways


class Ways:
    """The ways of a segment's people, ascending, to choose, one behind another, unlike things they point to."""

    def __init__(self, people, points):
        self._bits = {person: 1 << at for at, person in enumerate(people)}
        self._points = points
        self._ways = ways_behind(people, self._bits, points)
        self._taken = 0

    def people(self):
        """The people, in the order in which they choose."""
        return list(self._points)

    def left(self):
        """How many ways there are behind what is chosen."""
        return self._ways[self._taken]

    def choose(self, person, number):
        """Let the next person choose as in the way with this number; its thing, and how many ways are ahead of that."""
        free = [thing for thing in self._points[person] if self._taken & self._bits[thing] == 0]
        behind = [self._ways[self._taken | self._bits[thing]] for thing in free]
        at = 0
        ahead = 0
        while number >= ahead + behind[at]:
            ahead += behind[at]
            at += 1
        self._taken = self._taken | self._bits[free[at]]
        return (free[at], ahead)
