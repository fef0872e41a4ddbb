"""What one could get by other rows, and whom one's row sways."""

from swaphouse.given import is_row, is_row_of
from swaphouse.markets import rows_of
from swaphouse.pointing import firm_by, points_without, with_rows


def could_get(market, person):
    rows = rows_of(market, [person])
    # Who is left comes to the person by pointing, so a ring is closed through whomever it points to.
    return sorted(points_without(rows, person))


def row_for(person, thing):
    """The row of a thing alone; [] for the own one."""
    return [] if thing == person else [thing]


def result_by(market, person, other):
    rows = rows_of(market, [person, other])
    gets = firm_by(with_rows(rows, {person: row_for(person, other)}))
    return gets if gets[person] == other else None


def swayed(market, person):
    return [other for other in could_get(market, person) if other != person]


def two_rows(market, person, other):
    rows = rows_of(market, [person, other])
    points = points_without(rows, person)
    if other == person:
        others = [one for one in sorted(points) if one != person]
        return ([others[0]], []) if others else None
    if other not in points:
        return None
    # By the second row the ring closes without the other one, and the thing it points to is gone with it.
    return ([other], row_for(person, points[other]))


def is_two_rows(market, person, other, thing):
    rows = rows_of(market, [person, other])
    if not is_row_of(thing, 2) or not all([is_row(row, person, rows) for row in thing]):
        return False
    one, two = [firm_by(with_rows(rows, {person: row})) for row in thing]
    return one[other] != two[other]
