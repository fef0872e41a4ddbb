"""Best pairings, counted."""

from swaphouse.errors import BadNumber
from swaphouse.given import is_number
from swaphouse.growing import best_mates, pairs_in
from swaphouse.markets import rows_of
from swaphouse.pairings import mates_in, near_of
from swaphouse.tieways import TieWays


def count_of(near):
    return TieWays(near).ways(list(near), pairs_in(best_mates(near)))


def count_best(market):
    return count_of(near_of(rows_of(market, [])))


def best_at(market, number):
    near = near_of(rows_of(market, []))
    if not is_number(number) or number >= count_of(near):
        raise BadNumber(number)
    return TieWays(near).at(pairs_in(best_mates(near)), number)


def best_number(market, pairing):
    near = near_of(rows_of(market, []))
    mates = mates_in(near, pairing)
    most = pairs_in(best_mates(near))
    return TieWays(near).number(most, mates) if pairs_in(mates) == most else None


def served_counts(market):
    near = near_of(rows_of(market, []))
    most = pairs_in(best_mates(near))
    ways = TieWays(near)
    people = list(near)
    many = ways.ways(people, most)
    return {person: many - ways.ways([one for one in people if one != person], most) for person in people}
