"""Lies of several people, all told at once, and what comes of them."""

from swaphouse.errors import BadLies, BadThings
from swaphouse.given import is_one_of
from swaphouse.likes import is_better
from swaphouse.markets import are_rows, rows_of
from swaphouse.pointing import all_rings, firm_by, rounds_by, with_rows


def rows_and_lies(market, lies):
    """The pair of a market's rows and of its rows when the lies are told."""
    rows = rows_of(market, [])
    if not are_rows(lies, rows):
        raise BadLies(lies)
    return (rows, with_rows(rows, lies))


def word_for(row, person, now, ahead):
    """How a person fares that gets a thing now, got another one ahead, by its own row."""
    if now == ahead:
        return "same"
    return "better" if is_better(row, person, now, ahead) else "worse"


def lied(market, lies):
    rows, told = rows_and_lies(market, lies)
    ahead = firm_by(rows)
    now = firm_by(told)
    words = {person: word_for(rows[person], person, now[person], ahead[person]) for person in sorted(lies)}
    return (now, words)


def losers(market, lies):
    rows, told = rows_and_lies(market, lies)
    ahead = firm_by(rows)
    now = firm_by(told)
    for ring in all_rings(rounds_by(rows)):
        if any([now[person] != ahead[person] for person in ring]):
            return [person for person in sorted(ring)
                    if person in lies and word_for(rows[person], person, now[person], ahead[person]) == "worse"]
    return []


def are_things(thing, people):
    """Whether any object is a dict from people to people."""
    if not isinstance(thing, dict):
        return False
    return all([is_one_of(one, people) and is_one_of(other, people) for one, other in thing.items()])


def together(market, things):
    rows = rows_of(market, [])
    if not are_things(things, rows):
        raise BadThings(things)
    told = {person: [] if thing == person else [thing] for person, thing in things.items()}
    gets = firm_by(with_rows(rows, told))
    return gets if all([gets[person] == things[person] for person in things]) else None
