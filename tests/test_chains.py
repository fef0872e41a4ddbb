"""Points [24], [29]: chains."""

import random
import time
import unittest
from itertools import product

from examples import any_objects, crowd, market_n, rows_of, small_markets

from swaphouse.chains import chain_to, is_chain_to
from swaphouse.closedlots import hangs_on
from swaphouse.errors import BadMarket, NoPerson
from swaphouse.markets import Market
from swaphouse.reach import could_get
from swaphouse.rings import firm_allotment, rounds


def is_chain_by_trial(market, person, other, pairs):
    """Whether a list of pairs of people is a chain, by the words of [24]."""
    ring_of = {one: ring for rings in rounds(market) for ring in rings for one in ring}
    gets = firm_allotment(market)
    rings = [ring_of[other]] + [ring_of[two] for _, two in pairs]
    for ring, (one, two) in zip(rings, pairs):
        row = market.wants(one)
        if one not in ring or two not in row or gets[one] in row and row.index(two) >= row.index(gets[one]):
            return False
    return rings[-1] == ring_of[person]


class TestChains(unittest.TestCase):
    def check(self, market, person, other):
        chain = chain_to(market, person, other)
        self.assertEqual(other in could_get(market, person), chain is not None)
        self.assertEqual(person in hangs_on(market, other), chain is not None)
        if chain is not None:
            self.assertTrue(is_chain_by_trial(market, person, other, chain))
            self.assertTrue(is_chain_to(market, person, other, chain))
            self.assertTrue(all(isinstance(pair, tuple) for pair in chain))

    def test_small_markets(self):
        for names in (["a"], ["b", "a"], ["b", "c", "a"]):
            pairs = list(product(names, names))
            lists = [list(row) for many in range(3) for row in product(pairs, repeat=many)]
            for at, market in enumerate(small_markets(names)):
                for person, other in pairs:
                    self.check(market, person, other)
                    if at % 5 == 0:
                        for row in lists:
                            self.assertEqual(is_chain_by_trial(market, person, other, row),
                                             is_chain_to(market, person, other, row))

    def test_greater_ones(self):
        chance = random.Random(13)
        names = ["a", "b", "c", "d", "e"]
        for _ in range(100):
            wishes = {name: chance.choice(rows_of([other for other in names if other != name])) for name in names}
            for person, other in product(names, names):
                self.check(Market(names, wishes), person, other)

    def test_example(self):
        self.assertEqual([("dan", "ann")], chain_to(market=market_n(), person="ann", other="eve"))
        self.assertTrue(is_chain_to(market=market_n(), person="ann", other="eve", thing=(["dan", "ann"],)))
        self.assertEqual([], chain_to(market_n(), "ann", "bo"))
        self.assertEqual([], chain_to(market_n(), "fay", "fay"))
        self.assertIsNone(chain_to(market_n(), "eve", "ann"))

    def test_any_object(self):
        for thing in any_objects():
            self.assertIs(False, is_chain_to(market_n(), "ann", "eve", thing))
            self.assertEqual(thing == [] or thing == (), is_chain_to(market_n(), "ann", "bo", thing))
        for thing in ([("dan", "ann", "ann")], [("dan",)], ["da"], [("dan", None)], [("dan", "zed")], [(["dan"], "ann")],
                      [("eve", "ann")], [("dan", "eve")], [("dan", "ann"), ("ann", "bo")], {"dan": "ann"}, ("dan", "ann")):
            self.assertIs(False, is_chain_to(market_n(), "ann", "eve", thing))

    def test_wrong(self):
        for asked in (chain_to, lambda market, person, other: is_chain_to(market, person, other, None)):
            for thing in any_objects():
                if not isinstance(thing, Market):
                    with self.assertRaises(BadMarket) as caught:
                        asked(thing, None, None)
                    self.assertIs(thing, caught.exception.thing)
                if thing != "ann":
                    with self.assertRaises(NoPerson) as caught:
                        asked(market_n(), thing, 0)
                    self.assertIs(thing, caught.exception.thing)
                    with self.assertRaises(NoPerson) as caught:
                        asked(market_n(), "bo", thing)
                    self.assertIs(thing, caught.exception.thing)

    def test_long_chains(self):
        began = time.time()
        names = crowd(60)
        market = Market(names, {name: [names[at - 1]] if at else [] for at, name in enumerate(names)})
        chain = chain_to(market, names[0], names[59])
        self.assertEqual([(names[at], names[at - 1]) for at in range(59, 0, -1)], chain)
        self.assertTrue(is_chain_to(market, names[0], names[59], chain))
        self.assertFalse(is_chain_to(market, names[0], names[59], chain[:-1]))
        self.assertIsNone(chain_to(market, names[59], names[0]))
        market = Market(names, {name: names[:at] for at, name in enumerate(names)})
        self.assertTrue(is_chain_to(market, names[0], names[59], [(names[at], names[at - 1]) for at in range(59, 0, -1)]))
        self.assertTrue(is_chain_to(market, names[0], names[59], chain_to(market, names[0], names[59])))
        self.assertLess(time.time() - began, 10)

    def test_told_anew(self):
        chain_to(market_n(), "ann", "eve").append("x")
        chain_to(market_n(), "ann", "bo").append("x")
        self.assertEqual([("dan", "ann")], chain_to(market_n(), "ann", "eve"))
        self.assertEqual([], chain_to(market_n(), "ann", "bo"))


if __name__ == "__main__":
    unittest.main()
