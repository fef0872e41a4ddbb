"""One person fewer: what becomes of rings, of who is served, and of odd ones."""

from swaphouse.markets import Market, check_person, rows_of
from swaphouse.needmoves import changes
from swaphouse.oddmoves import odd_moves
from swaphouse.pairings import near_without
from swaphouse.pointing import firm_by
from swaphouse.sharing import rows_without, sharing_rows
from swaphouse.taking import Taking, near_by_needs


def without(market, person):
    rows = rows_of(market, [person])
    return Market([one for one in market.people() if one != person], rows_without(rows, person))


def changed_rings(market, person):
    rows = rows_of(market, [person])
    ahead = firm_by(rows)
    behind = firm_by(rows_without(rows, person))
    return [one for one in behind if behind[one] != ahead[one]]


def changed_served(market, needs, person):
    near = near_by_needs(market, needs, [person])
    ahead = [one for one in Taking(near, needs).taken() if one != person]
    others = [one for one in needs if one != person]
    falls, comes = changes(ahead, Taking(near_without(near, [person]), others).taken())
    if comes:
        return ("begins", comes[0])
    return ("ends", falls[0]) if falls else ("same",)


def odd_change(market, person):
    rows = sharing_rows(market)
    check_person(rows, person)
    comes, goes = odd_moves(rows, rows_without(rows, person))
    return ("comes", comes[0]) if comes else ("goes", goes[0])
