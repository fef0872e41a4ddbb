"""Segments: people left who come to one another by pointing to all they like best, and how things fit them.

Rows here are a dict from all people to their steps, as steps.wishes() tells them; points
are a dict from people to the lists of those to whose things each points.
"""


def points_of(rows, left):
    """To whom each who is left points: all it likes best among those left, ascending."""
    return {person: best_among(rows[person], left) for person in left}


def best_among(steps, left):
    for step in steps:
        best = [thing for thing in step if thing in left]
        if best:
            return best
    return []


def reached(points, person):
    """Whom one comes to from a person by pointing, the person too."""
    found = {person: True}
    waiting = [person]
    while waiting:
        last = waiting.pop()
        for thing in points[last]:
            if thing not in found:
                found[thing] = True
                waiting.append(thing)
    return found


def turned_about(points):
    """The dict from people to those who point to each."""
    told = {person: [] for person in points}
    for person, things in points.items():
        for thing in things:
            told[thing].append(person)
    return told


def a_segment(points):
    """A segment of the people, one at least, who point."""
    back = turned_about(points)
    person = min(points)
    ahead = reached(points, person)
    behind = reached(back, person)
    apart = [one for one in sorted(ahead) if one not in behind]
    while apart:
        # From those there is no way back, so fewer are reached each time.
        person = apart[0]
        ahead = reached(points, person)
        behind = reached(back, person)
        apart = [one for one in sorted(ahead) if one not in behind]
    return sorted(ahead)


def is_segment(points, people):
    """Whether the ascending list of people, one at least, is a segment of all who point."""
    ahead = reached(points, people[0])
    behind = reached(turned_about(points), people[0])
    return sorted(ahead) == people and all([person in behind for person in people])


def segments_of(rows):
    """All segments, each one of those left when those ahead are gone, as pairs (people, points)."""
    left = {person: True for person in rows}
    told = []
    while left:
        points = points_of(rows, left)
        people = a_segment(points)
        told.append((people, {person: points[person] for person in people}))
        for person in people:
            del left[person]
    return told


def serve(points, owner, person):
    """Give a person a thing it points to, others something else they point to; by owner, who has each thing so far.

    None if it is done; if it cannot be, all who ask in vain: they point to one thing fewer than they are.
    """
    asked_by = {}
    asking = [person]
    at = 0
    while at < len(asking):
        one = asking[at]
        for thing in points[one]:
            if thing not in asked_by:
                asked_by[thing] = one
                if thing not in owner:
                    hand_on(owner, asked_by, person, thing)
                    return None
                asking.append(owner[thing])
        at += 1
    return sorted(asking)


def hand_on(owner, asked_by, person, thing):
    """Let each thing go to who asked for it, from the free thing back to the person."""
    had = {one: kept for kept, one in owner.items()}
    one = asked_by[thing]
    while one != person:
        owner[thing] = one
        thing = had[one]
        one = asked_by[thing]
    owner[thing] = person


def fitted(points):
    """A pair (gets, few): what each gets of what it points to, and None; or None, and people who point to too few."""
    owner = {}
    for person in sorted(points):
        few = serve(points, owner, person)
        if few is not None:
            return (None, few)
    return ({person: thing for thing, person in owner.items()}, None)
