"""Rings that leave whatever else people wish, by what is known of their likings (likings.py)."""

from swaphouse.pointing import rings_of


def points_among(likings, left):
    """The dict from those left to all things among theirs than which none of theirs is known to be better."""
    told = {}
    for person in left:
        bits = likings[person].bits_of(left)
        told[person] = [thing for thing in left if likings[person].is_best(thing, bits)]
    return told


def only_point(liking, left, bits):
    """The one thing among those left to which a person points, None if there are several."""
    only = None
    for thing in left:
        if liking.is_best(thing, bits):
            if only is not None:
                return None
            only = thing
    return only


def only_points(likings, left):
    """The dict from those left to the one thing that each points to, None for who points to several."""
    told = {}
    for person in left:
        told[person] = only_point(likings[person], left, likings[person].bits_of(left))
    return told


def leave_surely(likings):
    """The pair of the rings that leave, round by round, and of the ascending list of those who do not."""
    left = list(likings)
    told = []
    rings = rings_of(only_points(likings, left))
    while rings:
        told.extend(rings)
        gone = {person: True for ring in rings for person in ring}
        left = [person for person in left if person not in gone]
        rings = rings_of(only_points(likings, left))
    return (told, left)
