"""People laid to things so that as many as can be get a thing that they name, and heights that hold it.

Rows here are a dict from all people, ascending, to whom each names; givers are people who name nobody.
"""


def pay_of(row, person, is_giver, heights):
    """What a person with this row pays by the heights."""
    if is_giver:
        return heights[person]
    return max([0] + [1 + heights[person] - heights[other] for other in row])


def all_pay(rows, givers, heights):
    return sum([pay_of(rows[person], person, person in givers, heights) for person in rows])


class Laying:
    """All people but givers laid one behind another to unlike things, what they name being worth 1, their own 0.

    A person's gain is the worth of what it has less the height of that; no other thing that it may have would give
    more. A thing that nobody has is of height 0.
    """

    def __init__(self, rows, givers):
        self._rows = rows
        self._heights = {person: 0 for person in rows}
        self._gains = {}
        self._owners = {}
        self._has = {}
        for person in rows:
            if person not in givers:
                self._seat(person)

    def heights(self):
        return dict(self._heights)

    def has(self, person):
        """Whose thing a person has: of a giver its own, None if somebody has that."""
        if person in self._has:
            return self._has[person]
        return None if person in self._owners else person

    def served(self):
        """How many have a thing that they name."""
        return len([person for person, thing in self._has.items() if thing != person])

    def _seat(self, person):
        self._gains[person] = max([self._worth(person, thing) for thing in self._may_have(person)])
        asking = [person]
        asked = {}
        lacks = {}
        self._look(person, asked, lacks)
        thing = self._rise(asking, asked, lacks)
        while thing in self._owners:
            owner = self._owners[thing]
            asking.append(owner)
            self._look(owner, asked, lacks)
            thing = self._rise(asking, asked, lacks)
        self._hand_on(asked, thing)

    def _may_have(self, person):
        return self._rows[person] + [person]

    def _worth(self, person, thing):
        """What a thing would give to a person."""
        return (0 if thing == person else 1) - self._heights[thing]

    def _look(self, person, asked, lacks):
        """Note by how much each thing that is not asked yet gives least too little, and to whom."""
        for thing in self._may_have(person):
            lack = self._gains[person] - self._worth(person, thing)
            if thing not in asked and (thing not in lacks or lack < lacks[thing][0]):
                lacks[thing] = (lack, person)

    def _rise(self, asking, asked, lacks):
        """Let gains fall and heights of what is asked rise until one more thing can be asked; the thing."""
        least, thing = min([(lacks[other][0], other) for other in lacks])
        for person in asking:
            self._gains[person] -= least
        for one in asked:
            self._heights[one] += least
        near = list(lacks)
        for one in near:
            lacks[one] = (lacks[one][0] - least, lacks[one][1])
        asked[thing] = lacks[thing][1]
        del lacks[thing]
        return thing

    def _hand_on(self, asked, thing):
        """Let each thing go to who asked for it, from the one that nobody has back to who had none."""
        while thing is not None:
            person = asked[thing]
            had = self._has.get(person)
            self._owners[thing] = person
            self._has[person] = thing
            thing = had
