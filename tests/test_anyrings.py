"""Points [46], [47], [50], [51]: most served by rings of any length, and heights."""

import random
import time
import unittest
from itertools import combinations, product

from examples import (any_objects, ascends, check_anew, check_indexes, check_markets, crowd, lots, market_n, turned_dict)
from pairtrials import large_markets, near_by_trial, tied
from ringtrials import (RING, gives, handings_by_trial, is_handing, larger_markets, many_served, pay_by_trial, some_markets)

from swaphouse.anyrings import heights, most_served, pay, rings_served
from swaphouse.errors import BadGivers
from swaphouse.markets import Market
from swaphouse.rings import firm_allotment

TWO_FOR_ONE = Market(["a", "b", "c"], {"a": ["c"], "b": ["c"]})


def silent(market):
    return [name for name in market.people() if not market.wants(name)]


def all_givers(market):
    return [[]] + [list(lot) for lot in lots(silent(market))]


class TestAnyRings(unittest.TestCase):
    def check(self, market, givers):
        most = most_served(market, givers)
        handing = rings_served(market, tuple(givers))
        self.assertTrue(is_handing(market, givers, handing) and ascends(handing))
        self.assertEqual(most, many_served(handing))
        told = heights(market, givers)
        self.assertTrue(ascends(told) and set(told) == set(market.people()))
        self.assertTrue(all(isinstance(height, int) and height >= 0 for height in told.values()))
        self.assertEqual(most, pay(market, givers, told))
        self.assertEqual(most, pay_by_trial(market, givers, told))
        return most

    def test_small_markets(self):
        for market in some_markets() + larger_markets(random.Random(112), 60, [5]):
            for givers in all_givers(market)[:6]:
                most = max(many_served(handing) for handing in handings_by_trial(market, givers))
                self.assertEqual(most, self.check(market, givers[::-1]))

    def test_any_heights(self):
        for market in some_markets()[::2]:
            names = sorted(market.people())
            for givers in all_givers(market)[:3]:
                most = most_served(market, givers)
                for told in product(range(3), repeat=len(names)):
                    thing = turned_dict(dict(zip(names, told)))
                    self.assertEqual(pay_by_trial(market, givers, thing), pay(market, givers, thing))
                    self.assertGreaterEqual(pay(market, givers, thing), most)

    def test_firm_rings_serve_no_more(self):
        for market in some_markets() + larger_markets(random.Random(113), 200, [5, 6]) + [RING]:
            self.assertLessEqual(many_served(firm_allotment(market)), most_served(market, []))
        self.assertEqual((2, 4), (many_served(firm_allotment(RING)), most_served(RING, [])))

    def test_where_all_name_one_another(self):
        """FACTS of [50]: with few and alone; heights of 0 and 1."""
        for names in ([], ["a"], ["b", "a"], ["b", "c", "a"], ["c", "a", "d", "b"]):
            every = list(combinations(sorted(names), 2))
            for many in range(len(every) + 1):
                for pairs in combinations(every, many):
                    market = tied(names, pairs)
                    near = near_by_trial(market)
                    counts = [len(names) + len(few) - len([name for name in names if name not in few and set(near[name]) <= set(few)])
                              for few in [()] + list(lots(names))]
                    most = most_served(market, [])
                    self.assertEqual(most, min(counts))
                    self.assertIn(most, [pay(market, [], dict(zip(names, told))) for told in product(range(2), repeat=len(names))])

    def test_example(self):
        market = market_n()
        self.assertEqual(5, most_served(market=market, givers=[]))
        told = dict.fromkeys(market.people(), 1)
        self.assertEqual(5, pay(market=market, givers=[], thing={**told, "fay": 0}))
        self.assertEqual(5, pay(market, [], heights(market=market, givers=[])))
        self.assertEqual("fay", rings_served(market=market, givers=[])["fay"])
        self.assertEqual({"a": "c", "b": "d", "c": "a", "d": "b"}, rings_served(RING, []))
        self.assertEqual(4, pay(RING, [], {"a": 0, "b": 0, "c": 0, "d": 0}))
        self.assertEqual({"a": "b", "b": "a", "c": "c", "d": "d"}, firm_allotment(RING))
        told = {"a": 0, "b": 0, "c": 1}
        self.assertEqual((0, 0), (most_served(TWO_FOR_ONE, []), pay(TWO_FOR_ONE, [], told)))
        self.assertEqual((1, 1), (most_served(TWO_FOR_ONE, ["c"]), pay(TWO_FOR_ONE, ("c",), told)))
        handing = rings_served(TWO_FOR_ONE, ["c"])
        self.assertEqual((None, True), (handing["c"], gives(handing, "c")))
        four = Market(["a", "b", "c", "d"], {"d": ["a"], "a": ["b"], "b": ["c"], "c": ["d"]})
        self.assertEqual(4, most_served(four, []))

    def test_edges(self):
        none, one = Market([], {}), Market(["a"], {})
        self.assertEqual((0, {}, {}, 0), (most_served(none, []), rings_served(none, []), heights(none, []), pay(none, [], {})))
        self.assertEqual((0, {"a": "a"}), (most_served(one, ["a"]), rings_served(one, ["a"])))
        self.assertEqual((7, 0), (pay(one, ["a"], {"a": 7}), pay(one, [], {"a": 7})))
        row = Market(["c", "b", "a"], {"b": ["a"], "c": ["b"]})
        self.assertEqual((0, 2), (self.check(row, []), self.check(row, ["a"])))
        self.assertEqual({"a": None, "b": "a", "c": "b"}, rings_served(row, ["a"]))

    def test_any_object(self):
        market = Market(["a", "b"], {"a": ["b"]})
        wrong = [{"a": 0}, {"a": 0, "b": 0, "c": 0}, {"a": -1, "b": 0}, {"a": True, "b": 0}, {"a": "0", "b": 0}, {"a": None, "b": 1},
                 {"a": 0, "b": [0]}, [("a", 0), ("b", 0)]]
        for thing in any_objects() + wrong:
            self.assertIsNone(pay(market, [], thing))
        self.assertEqual(999999999, pay(market, ["b"], {"b": 999999999, "a": 0}))

    def test_wrong(self):
        check_markets(self, most_served, rings_served, heights, pay)
        cases = [(["a"], 0), (["c", "a"], 1), (["c", "c"], 1), ([None], 0), (["c", "zed"], 1), (("c", ["c"]), 1), ([True], 0),
                 (["b", 4], 0)]
        for function in (most_served, rings_served, heights, lambda market, givers: pay(market, givers, None)):
            check_indexes(self, BadGivers, lambda thing: function(TWO_FOR_ONE, thing), cases)

    def test_told_anew(self):
        for function in (rings_served, heights):
            check_anew(self, function, market_n(), [])
            check_anew(self, function, TWO_FOR_ONE, ["c"])
            self.assertEqual(function(TWO_FOR_ONE, ["c"]), function(Market(("a", "b", "c"), {"b": ("c",), "a": ["c"]}), ("c",)))

    def test_forty_promptly(self):
        began = time.time()
        chance = random.Random(114)
        names = crowd(40)
        markets = large_markets(chance, 40)
        for part in (0.03, 0.05, 0.1, 0.5):
            markets.append(Market(names, {name: [other for other in names if other != name and chance.random() < part]
                                          for name in names[5:]}))
        for market in markets:
            for givers in (silent(market), []):
                self.check(market, givers)
        row = Market(names, {name: [names[at]] for at, name in enumerate(names[1:])})
        self.assertEqual((0, 39), (self.check(row, []), self.check(row, names[:1])))
        ring = Market(names, {name: [names[at - 1]] for at, name in enumerate(names)})
        self.assertEqual(40, self.check(ring, []))
        self.assertLess(time.time() - began, 20)


if __name__ == "__main__":
    unittest.main()
