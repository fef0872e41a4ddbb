"""Another row of one person: what becomes of odd ones, and of rings when a wish is raised."""

from swaphouse.errors import BadRow, BadWish
from swaphouse.given import is_one_of, row_fault
from swaphouse.markets import Market, rows_of
from swaphouse.oddmoves import odd_moves
from swaphouse.pointing import firm_by
from swaphouse.sharing import sharing_rows


def rerowed(market, person, row):
    rows = rows_of(market, [person])
    wrong = row_fault(row, person, rows)
    if wrong is not None:
        raise BadRow(wrong)
    return Market(market.people(), {**rows, person: row})


def odd_by_row(market, person, row):
    behind = rerowed(market, person, row)
    return odd_moves(sharing_rows(market), sharing_rows(behind))


def raised(market, person, other):
    row = rows_of(market, [person])[person]
    if not is_one_of(other, row[1:]):
        raise BadWish(other)
    at = row.index(other)
    return rerowed(market, person, row[:at - 1] + [other] + row[at - 1:at] + row[at + 1:])


def raising(market, person, other):
    behind = firm_by(raised(market, person, other).wishes())
    ahead = firm_by(market.wishes())
    return ("same",) if behind == ahead else ("gets", other)
