"""What becomes of who is served when needs or ties are changed."""

from swaphouse.errors import BadPlace, HasTie
from swaphouse.given import is_number
from swaphouse.pairings import near_with
from swaphouse.taking import Taking, near_by_needs


def changes(ahead, behind):
    """The pair of ascending lists of who is served ahead alone, and who is behind alone."""
    return (sorted([one for one in ahead if one not in behind]), sorted([one for one in behind if one not in ahead]))


def with_need(market, needs, person, place):
    near = near_by_needs(market, needs, [person])
    if not is_number(place) or place >= len(needs):
        raise BadPlace(place)
    others = [one for one in needs if one != person]
    moved = others[:place] + [person] + others[place:]
    return changes(Taking(near, needs).taken(), Taking(near, moved).taken())


def with_tie(market, needs, one, other):
    near = near_by_needs(market, needs, [one, other])
    if one == other or other in near[one]:
        raise HasTie(one, other)
    return changes(Taking(near, needs).taken(), Taking(near_with(near, one, other), needs).taken())
