"""In how many ways ties can be chosen, so many of them, of unlike people."""


class TieWays:
    """The ways to choose ties, in the order in which their ascending lists compare."""

    def __init__(self, near):
        self._near = near
        self._ways = {}

    def ways(self, left, many):
        """In how many ways so many ties can be chosen among the ascending list of people left."""
        if many == 0:
            return 1
        if len(left) < 2 * many:
            return 0
        key = (tuple(left), many)
        if key not in self._ways:
            self._ways[key] = sum([self.ways(behind, less) for _, behind, less in self._choices(left, many)])
        return self._ways[key]

    def _choices(self, left, many):
        """For the first one left, in order, the triples of whom it has, who is left behind it, how many ties lack."""
        first = left[0]
        others = left[1:]
        # Lists in which the first one left stands are ahead of those that begin with somebody behind it.
        mates = [mate for mate in others if mate in self._near[first]]
        return [(mate, [one for one in others if one != mate], many - 1) for mate in mates] + [(None, others, many)]

    def at(self, many, number):
        """The mates of the way with this number."""
        mates = {person: None for person in self._near}
        left = list(self._near)
        while many > 0:
            first = left[0]
            choices = self._choices(left, many)
            at = 0
            while number >= self.ways(choices[at][1], choices[at][2]):
                number = number - self.ways(choices[at][1], choices[at][2])
                at += 1
            mate, left, many = choices[at]
            if mate is not None:
                mates[first] = mate
                mates[mate] = first
        return mates

    def number(self, many, mates):
        """The number of the way by which people have these mates."""
        number = 0
        left = list(self._near)
        while many > 0:
            choices = self._choices(left, many)
            at = 0
            while choices[at][0] != mates[left[0]]:
                number = number + self.ways(choices[at][1], choices[at][2])
                at += 1
            _, left, many = choices[at]
        return number
