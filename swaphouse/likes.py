"""What people like better, by their rows, and what an allotment is."""

from swaphouse.given import has_just, is_one_of


def rank(row, person, thing):
    """The place of a thing by a person's row: its own behind the row, what is not named, all alike, behind that."""
    if thing in row:
        return row.index(thing)
    return len(row) if thing == person else len(row) + 1


def is_better(row, person, one, other):
    """Whether a person likes one thing better than the other one."""
    return rank(row, person, one) < rank(row, person, other)


def better_things(row, person, thing):
    """Whatever of its row a person likes better than a thing."""
    return row[:rank(row, person, thing)]


def is_allotment(thing, people):
    """Whether any object is a dict from all people to their things, each once."""
    if not has_just(thing, people):
        return False
    things = list(thing.values())
    return all([is_one_of(one, people) for one in things]) and len(set(things)) == len(things)
