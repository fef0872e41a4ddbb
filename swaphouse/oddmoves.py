"""What odd ones come, and which go, when rows of people who share change."""

from swaphouse.tables import odd_ones


def odd_moves(rows, others):
    """The pair of the ascending lists of the odd ones of other rows alone, and of these rows alone."""
    ahead = odd_ones(rows)
    behind = odd_ones(others)
    return ([ring for ring in behind if ring not in ahead], [ring for ring in ahead if ring not in behind])
