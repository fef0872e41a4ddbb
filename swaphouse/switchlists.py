"""Switches: rings of people by which two firm pairings differ that have no third one between.

Rows here are a dict from all people, ascending, to those with whom they may share, best first. What a person's mates
are in all firm pairings parts these in two, between each two mates that stand one behind the other: those who part
them alike are the people of one switch.
"""


def mates_in_all(rows, pairings, person):
    """A person's mates in firm pairings, best first, each once."""
    found = set([pairing[person] for pairing in pairings])
    return [mate for mate in rows[person] if mate in found]


def parting(row, pairings, person, mate):
    """For each firm pairing, whether it has the person with nobody worse than this mate just as the first one has."""
    good = [row.index(pairing[person]) <= row.index(mate) for pairing in pairings]
    return tuple([one == good[0] for one in good])


def ring_of(hands):
    """The ring of people who have these on both hands, from the least one on by the lesser of its two."""
    first = min(list(hands))
    ring = [first, min(hands[first])]
    while len(ring) < len(hands):
        one, other = hands[ring[-1]]
        ring.append(other if one == ring[-2] else one)
    return ring


def switches_of(rows, pairings):
    """The ascending list of all switches of all firm pairings."""
    hands = {}
    for person, row in rows.items():
        mates = mates_in_all(rows, pairings, person)
        for better, worse in zip(mates, mates[1:]):
            parts = parting(row, pairings, person, better)
            hands.setdefault(parts, {})[person] = (better, worse)
    return sorted([ring_of(told) for told in list(hands.values())])


def side_in(rows, pairing, switch):
    """The side on which a switch stands in a firm pairing."""
    row = rows[switch[0]]
    mate = row.index(pairing[switch[0]])
    second = row.index(switch[1])
    if second < row.index(switch[-1]):
        return 0 if mate <= second else 1
    return 0 if mate >= second else 1


def sides_in(rows, pairing, switches):
    return [side_in(rows, pairing, switch) for switch in switches]


def all_sides(rows, pairings):
    """The sides, by switches, in each of all firm pairings."""
    switches = switches_of(rows, pairings)
    return [sides_in(rows, pairing, switches) for pairing in pairings]


def unlike_at(one, other):
    """The ascending list of the indexes at which two lists of sides are unlike."""
    return [at for at in range(len(one)) if one[at] != other[at]]
