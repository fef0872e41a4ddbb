"""All firm pairings, told apart by whom the first ones with two or more left in their rows have.

Rows here are a dict from all people, ascending, to those with whom they may share, best first, asked through.
"""

from swaphouse.errors import NoFirm, NotFirm
from swaphouse.sharing import sharing_rows
from swaphouse.tables import ask_through, copy_of, cut_at, cut_behind, goes_on, odd_rings_of, settled


def firm_rows(market):
    """The rows of a market asked through, behind a check that it has a firm pairing."""
    rows = sharing_rows(market)
    rings = odd_rings_of(goes_on(settled(rows)))
    if rings:
        raise NoFirm(rings[0])
    ask_through(rows)
    return rows


def rows_within(rows, person, best, worst):
    """The rows when a person is to have one not ahead of best, and not behind worst.

    Whoever it likes better than best has then somebody liked better than the person.
    """
    told = copy_of(rows)
    cut_behind(told, person, worst)
    better = told[person][:told[person].index(best)]
    for other in better:
        cut_at(told, other, told[other].index(person))
    ask_through(told)
    return told


def keeps_all(rows, told):
    """Whether some firm pairing by rows goes by those that are told, too: nobody has then lost all."""
    left = settled(told)
    return all([len(left[person]) == 1 or not rows[person] for person in rows])


def all_firm(rows):
    """All firm pairings by rows that have some, ascending by the lists of mates."""
    for person, row in rows.items():
        if len(row) > 1:
            told = []
            for mate in sorted(row):
                within = rows_within(rows, person, mate, mate)
                if keeps_all(rows, within):
                    told.extend(all_firm(within))
            return told
    return [{person: row[0] if row else None for person, row in rows.items()}]


def rows_with_firm(market):
    """The pair of whom people may share with and of all firm pairings, behind a check that there is one."""
    rows = firm_rows(market)
    return (sharing_rows(market), all_firm(rows))


def check_firm(pairings, pairing):
    """Check that any object is one of all firm pairings."""
    if pairing not in pairings:
        raise NotFirm(pairing)
