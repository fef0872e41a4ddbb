"""Most served when things are handed on by rings of any length, or in rows from givers, and heights that hold it."""

from swaphouse.errors import BadGivers
from swaphouse.given import first_wrong, has_just, is_list, is_number
from swaphouse.laying import Laying, all_pay
from swaphouse.markets import rows_of


def rows_with_givers(market, givers):
    """The rows of a market, behind a check that givers is a list of unlike people who name nobody."""
    rows = rows_of(market, [])
    wrong = first_wrong(givers, lambda name: name in rows and rows[name] == []) if is_list(givers) else 0
    if wrong is not None:
        raise BadGivers(wrong)
    return rows


def most_served(market, givers):
    return Laying(rows_with_givers(market, givers), givers).served()


def rings_served(market, givers):
    rows = rows_with_givers(market, givers)
    laying = Laying(rows, givers)
    return {person: laying.has(person) for person in rows}


def heights(market, givers):
    return Laying(rows_with_givers(market, givers), givers).heights()


def pay(market, givers, thing):
    rows = rows_with_givers(market, givers)
    if not has_just(thing, rows) or not all([is_number(height) for height in list(thing.values())]):
        return None
    return all_pay(rows, givers, thing)
