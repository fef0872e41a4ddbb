"""Points [49], [50]: when pairs are enough."""

import random
import time
import unittest

from examples import ascends, check_anew, check_markets, crowd, market_n
from pairtrials import large_markets
from ringtrials import RING, allotments, larger_markets, many_served, some_markets

from swaphouse.anyrings import most_served, pay
from swaphouse.enough import more_by_rings, pairs_enough
from swaphouse.markets import Market
from swaphouse.mostpairs import most_pairs


class TestEnough(unittest.TestCase):
    def check(self, market):
        """JUST ONE of both; whether pairs are enough."""
        in_pairs = 2 * most_pairs(market)
        told, deal = pairs_enough(market), more_by_rings(market)
        self.assertEqual(1, [told, deal].count(None))
        if told is not None:
            self.assertTrue(ascends(told))
            self.assertLessEqual(pay(market, [], told), in_pairs)
        else:
            rows = market.wishes()
            self.assertTrue(ascends(deal) and set(deal) == set(rows) == set(deal.values()))
            self.assertTrue(all(thing == name or thing in rows[name] for name, thing in deal.items()))
            self.assertGreater(many_served(deal), in_pairs)
        return told is not None

    def test_small_markets(self):
        for market in some_markets() + larger_markets(random.Random(131), 100, [5]):
            most = max(many_served(deal) for deal in allotments(market))
            self.assertEqual(most == 2 * most_pairs(market), self.check(market))
            self.assertEqual(most, most_served(market, []))

    def test_example(self):
        # Of N pairs serve four, rings five.
        self.assertIsNone(pairs_enough(market=market_n()))
        self.assertEqual({"ann": "cy", "bo": "ann", "cy": "bo", "dan": "eve", "eve": "dan", "fay": "fay"},
                         more_by_rings(market=market_n()))
        self.assertTrue(self.check(RING))
        self.assertEqual(({}, None), (pairs_enough(Market([], {})), more_by_rings(Market([], {}))))
        self.assertTrue(self.check(Market(["b", "a"], {"b": ["a"]})))

    def test_wrong(self):
        check_markets(self, pairs_enough, more_by_rings)

    def test_told_anew(self):
        check_anew(self, more_by_rings, market_n())
        check_anew(self, pairs_enough, RING)

    def test_forty_promptly(self):
        began = time.time()
        chance = random.Random(132)
        names = crowd(40)
        for market in large_markets(chance, 40):
            self.check(market)
        for part in (0.03, 0.06, 0.1, 0.5):
            self.check(Market(names, {name: [other for other in names if other != name and chance.random() < part]
                                      for name in names}))
        self.assertFalse(self.check(Market(names, {name: [names[at - 1]] for at, name in enumerate(names)})))
        self.assertLess(time.time() - began, 20)


if __name__ == "__main__":
    unittest.main()
