"""What is sure by what is known of wishes, or two worlds in which somebody gets unlike things."""

from swaphouse.given import is_one_of, is_row_of
from swaphouse.likes import rank
from swaphouse.likings import fitting_likings, row_in
from swaphouse.markets import Market
from swaphouse.pointing import dealt, firm_by, from_least
from swaphouse.segments import a_segment
from swaphouse.surerings import leave_surely, points_among


def sure_rings(people, known):
    rings, _ = leave_surely(fitting_likings(people, known))
    return rings


def sure_things(people, known):
    rings, _ = leave_surely(fitting_likings(people, known))
    return dealt(rings)


def way_back(points, start, goal):
    """The fewest people by whose pointing one comes from one to another, both told."""
    ways = {start: [start]}
    waiting = [start]
    at = 0
    while goal not in ways:
        last = waiting[at]
        for thing in points[last]:
            if thing not in ways:
                ways[thing] = ways[last] + [thing]
                waiting.append(thing)
        at += 1
    return ways[goal]


def world_by(people, likings, ring):
    """The market that fits in which people of a ring like the next one's thing best that they can, of those left."""
    gets = dealt([ring])
    rows = {}
    for person, liking in likings.items():
        order = liking.order_by(gets[person]) if person in gets else liking.order()
        rows[person] = row_in(order, person)
    return Market(people, rows)


def two_worlds(people, known):
    likings = fitting_likings(people, known)
    _, left = leave_surely(likings)
    if not left:
        return None
    points = points_among(likings, left)
    # Who comes round by pointing alone would have left, so somebody here points to two things.
    person = [one for one in a_segment(points) if len(points[one]) > 1][0]
    rings = [from_least(way_back(points, thing, person)) for thing in points[person][:2]]
    one, other = [world_by(people, likings, ring) for ring in rings]
    return (person, one, other)


def fits(people, known, thing):
    """Whether any object is a market of these people that fits what is known, which does not turn."""
    if not isinstance(thing, Market) or sorted(thing.people()) != sorted(people):
        return False
    rows = thing.wishes()
    for person, pairs in known.items():
        row = rows[person]
        # What is not named may stand in whatever order behind the own thing.
        if not all([rank(row, person, better) <= rank(row, person, worse) for better, worse in pairs]):
            return False
    return True


def are_two_worlds(people, known, thing):
    fitting_likings(people, known)
    if not is_row_of(thing, 3) or not is_one_of(thing[0], people):
        return False
    if not fits(people, known, thing[1]) or not fits(people, known, thing[2]):
        return False
    return firm_by(thing[1].wishes())[thing[0]] != firm_by(thing[2].wishes())[thing[0]]
