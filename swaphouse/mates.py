"""People's mates in firm pairings, bounds for them, and the least worst place."""

from swaphouse.errors import BadBounds, BadPlace
from swaphouse.firmlists import rows_with_firm
from swaphouse.given import is_number, is_one_of, is_row_of
from swaphouse.markets import check_person
from swaphouse.switchlists import mates_in_all


def mates(market, person):
    rows, pairings = rows_with_firm(market)
    check_person(rows, person)
    return mates_in_all(rows, pairings, person)


def are_bounds(rows, thing):
    """Whether any object is a dict from people to pairs of names in their rows, the better one first."""
    if not isinstance(thing, dict):
        return False
    return all([is_one_of(person, rows) and is_bound(rows[person], pair) for person, pair in thing.items()])


def is_bound(row, thing):
    if not is_row_of(thing, 2) or not all([is_one_of(name, row) for name in thing]):
        return False
    return row.index(thing[0]) <= row.index(thing[1])


def keeps(row, mate, bound):
    best, worst = bound
    return mate is not None and row.index(best) <= row.index(mate) <= row.index(worst)


def kept_bounds(market, bounds):
    """All firm pairings, and a dict, ascending, from who has bounds to the list of whether each pairing keeps them."""
    rows, pairings = rows_with_firm(market)
    if not are_bounds(rows, bounds):
        raise BadBounds(bounds)
    kept = {person: [keeps(rows[person], pairing[person], bounds[person]) for pairing in pairings]
            for person in sorted(bounds)}
    return (pairings, kept)


def first_clash(kept):
    """The first of the shortest ascending lists of people whom no pairing keeps all, None if there is none.

    If each two of them are kept by some pairing, all are by one that stands in the middle of such.
    """
    for one in kept:
        if not any(kept[one]):
            return [one]
    for one in kept:
        for other in kept:
            if one < other and not any([both[0] and both[1] for both in zip(kept[one], kept[other])]):
                return [one, other]
    return None


def firm_within(market, bounds):
    pairings, kept = kept_bounds(market, bounds)
    for at, pairing in enumerate(pairings):
        if all([told[at] for told in list(kept.values())]):
            return pairing
    return None


def bounds_clash(market, bounds):
    _, kept = kept_bounds(market, bounds)
    return first_clash(kept)


def place_of_mate(row, mate):
    """The place of a mate in a row, from 1 on; 0 for who is alone."""
    return 0 if mate is None else row.index(mate) + 1


def worst_place(rows, pairing):
    return max([0] + [place_of_mate(row, pairing[person]) for person, row in rows.items()])


def least_worst(market):
    rows, pairings = rows_with_firm(market)
    places = [worst_place(rows, pairing) for pairing in pairings]
    return (min(places), pairings[places.index(min(places))])


def place_clash(market, place):
    rows, pairings = rows_with_firm(market)
    if not is_number(place):
        raise BadPlace(place)
    # Who is alone stands at 0, and clashes with nobody.
    return first_clash({person: [place_of_mate(row, pairing[person]) <= place for pairing in pairings]
                        for person, row in rows.items()})
