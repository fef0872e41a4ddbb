"""Askers: what one must ask people, till it is sure what each gets."""

from swaphouse.errors import AsksOn, BadAsk, BadAsker
from swaphouse.given import are_unlike, is_ascending, is_one_of, is_row_of
from swaphouse.likings import check_people, likings_of
from swaphouse.markets import rows_of
from swaphouse.nofunctions import is_no_function
from swaphouse.pointing import dealt
from swaphouse.surerings import leave_surely, only_points


def is_ask(thing, people):
    """Whether any object is a pair of a person and an ascending list of unlike others."""
    if not is_row_of(thing, 2) or not is_one_of(thing[0], people):
        return False
    return are_unlike(thing[1], people) and is_ascending(thing[1]) and thing[0] not in thing[1]


def best_of(row, person, lot):
    """What a person with this row likes best among the things of a lot and its own."""
    for thing in row:
        if thing in lot:
            return thing
    return person


def copy_of_told(told):
    return [(person, list(lot), name) for person, lot, name in told]


def copy_of_any(thing):
    """The same object with new lists and dicts, at every depth."""
    if isinstance(thing, dict):
        return {key: copy_of_any(part) for key, part in thing.items()}
    if isinstance(thing, list):
        return [copy_of_any(part) for part in thing]
    if isinstance(thing, tuple):
        return tuple([copy_of_any(part) for part in thing])
    return thing


def leave_by(people, told):
    """What leave_surely tells by answers, and the likings that these tell of."""
    known = {person: [] for person in people}
    for person, lot, name in told:
        things = [thing for thing in list(lot) + [person] if thing != name]
        known[person].extend([(name, thing) for thing in things])
    likings = likings_of(people, known)
    rings, left = leave_surely(likings)
    return (rings, left, likings)


def asked(market, asker):
    rows = rows_of(market, [])
    if is_no_function(asker):
        raise BadAsker(asker)
    people = market.people()
    told = []
    answer = asker(list(people), [])
    while not isinstance(answer, dict):
        if not is_ask(answer, rows):
            raise BadAsk(answer)
        if len(told) == len(people) * len(people):
            raise AsksOn(len(told))
        person = answer[0]
        lot = list(answer[1])
        told.append((person, lot, best_of(rows[person], person, lot)))
        answer = asker(list(people), copy_of_told(told))
    rings, left, _ = leave_by(people, told)
    return (len(told), copy_of_any(answer), not left and dealt(rings) == answer)


def firm_asker(people, told):
    check_people(people)
    rings, left, likings = leave_by(people, told)
    if not left:
        return dealt(rings)
    # By pointing to one thing alone nobody comes round, so somebody is come to who points to several.
    points = only_points(likings, left)
    person = left[0]
    while points[person] is not None:
        person = points[person]
    return (person, [other for other in left if other != person])
