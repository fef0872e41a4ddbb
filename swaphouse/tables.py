"""Rows of people who share, asked through and cut on, until a pairing or odd rings are left.

Rows here are a dict from all people, ascending, to those with whom they may share, best first; who is struck out of a
row has its person struck out, too.
"""

from swaphouse.pointing import rings_of


def copy_of(rows):
    return {person: list(row) for person, row in rows.items()}


def cut_at(rows, person, at):
    """Strike all in a person's row from a place on, back and forth; those who were struck."""
    struck = rows[person][at:]
    for other in struck:
        rows[other].remove(person)
    rows[person] = rows[person][:at]
    return struck


def cut_behind(rows, person, other):
    return cut_at(rows, person, rows[person].index(other) + 1)


def ask_through(rows):
    """Let all ask the first of their rows, and strike, until everybody is the last one in the row of its first."""
    asking = list(rows)
    while asking:
        person = asking.pop()
        if rows[person]:
            asking.extend(cut_behind(rows, rows[person][0], person))


def ring_from(rows, person):
    """From one with two in its row to the last in the row of its second, and so on: the round that comes of it."""
    places = {}
    path = []
    while person not in places:
        places[person] = len(path)
        path.append(person)
        person = rows[rows[person][1]][-1]
    return path[places[person]:]


def is_odd(rows, ring):
    """Whether a round stands in an odd ring, each with just two in its row."""
    return all([len(rows[person]) == 2 and rows[person][1] in ring for person in ring])


def cut_on(rows, ring):
    """Let each second one of a round keep the one from which the step to it came, and strike all behind."""
    steps = [(person, rows[person][1]) for person in ring]
    for person, second in steps:
        cut_behind(rows, second, person)


def settled(rows):
    """The rows asked through and cut on, each left with one at most, but in odd rings with two: next, and ahead."""
    told = copy_of(rows)
    ask_through(told)
    done = {}
    for person in rows:
        while len(told[person]) > 1 and person not in done:
            ring = ring_from(told, person)
            if is_odd(told, ring):
                for one in ring:
                    done[one] = True
            else:
                cut_on(told, ring)
    return told


def goes_on(rows):
    """To whom each goes on by settled rows."""
    return {person: row[0] if row else person for person, row in rows.items()}


def odd_rings_of(points):
    """The ascending list of the odd rings of a party."""
    return [ring for ring in rings_of(points) if len(ring) > 2]


def odd_ones_of(points):
    """The ascending list of the odd rings of a party, and of the rings of one of those who are alone."""
    return [ring for ring in rings_of(points) if len(ring) != 2]


def odd_ones(rows):
    return odd_ones_of(goes_on(settled(rows)))
