"""Markets: people and whose things they want."""

from swaphouse.errors import BadMarket, BadPeople, BadWishes, NoPerson
from swaphouse.given import is_one_of, is_row
from swaphouse.names import people_fault


def are_rows(thing, people):
    """Whether any object is a dict from some of the people to rows."""
    if not isinstance(thing, dict):
        return False
    names = {name: True for name in people}
    return all([person in names and is_row(row, person, names) for person, row in thing.items()])


class Market:
    """People, each with one thing, and their rows of whose things they want."""

    def __init__(self, people, wishes):
        wrong = people_fault(people)
        if wrong is not None:
            raise BadPeople(wrong)
        if not are_rows(wishes, people):
            raise BadWishes(wishes)
        self._people = list(people)
        self._rows = {name: list(wishes.get(name, [])) for name in sorted(people)}

    def people(self):
        return list(self._people)

    def wishes(self):
        return {name: list(row) for name, row in self._rows.items()}

    def wants(self, person):
        if not is_one_of(person, self._rows):
            raise NoPerson(person)
        return list(self._rows[person])

    def __eq__(self, other):
        return isinstance(other, Market) and self._people == other._people and self._rows == other._rows


def check_market(market):
    if not isinstance(market, Market):
        raise BadMarket(market)


def check_person(people, person):
    if not is_one_of(person, people):
        raise NoPerson(person)


def rows_of(market, people):
    """The rows of a market, ascending by person, behind a check that each thing in people is a person of it."""
    check_market(market)
    rows = market.wishes()
    for person in people:
        check_person(rows, person)
    return rows
