"""What the tests of what is known use: markets that fit, by plain trial of all orders."""

from functools import lru_cache
from itertools import permutations, product

from examples import small_markets

from swaphouse.markets import Market


@lru_cache(maxsize=None)
def markets_of(names):
    return small_markets(list(names))


def fits_by_trial(market, known):
    """By the words of [96]: some order of all that is not named brings each better ahead of its worse."""
    names = market.people()
    for name in names:
        head = market.wants(name) + [name]
        rest = [other for other in names if other not in head]
        orders = [head + list(behind) for behind in permutations(rest)]
        if not any(all(order.index(better) < order.index(worse) for better, worse in known.get(name, [])) for order in orders):
            return False
    return True


def orders_that_fit(names, pairs):
    return [list(order) for order in permutations(names) if all(order.index(better) < order.index(worse) for better, worse in pairs)]


def all_fitting(names, known):
    """All markets of these people that fit."""
    choices = []
    for name in names:
        rows = {tuple(order[:order.index(name)]) for order in orders_that_fit(names, known.get(name, []))}
        choices.append([list(row) for row in sorted(rows)])
    return [Market(names, dict(zip(names, rows))) for rows in product(*choices)]


def random_known(chance, names, many, turning):
    """What is known, by pairs, of some people; without turns, if not turning."""
    told = {}
    for name in chance.sample(names, len(names)):
        if chance.random() < 0.8 and len(names) > 1:
            order = chance.sample(names, len(names))
            pairs = []
            for _ in range(chance.randint(0, many)):
                one, other = chance.sample(names, 2)
                if not turning and order.index(one) > order.index(other):
                    one, other = other, one
                pairs.append(chance.choice([tuple, list])((one, other)))
            told[name] = chance.choice([tuple, list])(pairs)
    return told


def turns_by_trial(names, pairs):
    """All rings by which likings turn, the fewest names first."""
    pairs = [tuple(pair) for pair in pairs]
    found = []
    for many in range(2, len(names) + 1):
        for ring in permutations(sorted(names), many):
            if ring[0] == min(ring) and all(pair in pairs for pair in zip(ring, ring[1:] + ring[:1])):
                found.append(list(ring))
    return found
