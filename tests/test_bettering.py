"""Points [15] and [17]: a ring that betters, or prices."""

import random
import time
import unittest
from itertools import permutations, product

from examples import (FIRM_N, allotments_of, any_objects, betters, crowd, lots, market_n, places, rings_by_trial,
                      small_markets, small_steps)

from swaphouse.alike import Steps
from swaphouse.bettering import are_prices, bettering, is_bettering, prices
from swaphouse.errors import BadAllotment, BadMarket
from swaphouse.markets import Market
from swaphouse.notices import Notice
from swaphouse.rings import firm_allotment

AB = Market(["b", "a"], {"a": ["b"], "b": ["a"]})
SWAPPED = {"ann": "bo", "bo": "ann", "cy": "cy", "dan": "eve", "eve": "dan", "fay": "fay"}
ALL_OF_FUNCTIONS = [bettering, prices, lambda market, allotment: is_bettering(market, allotment, []),
                    lambda market, allotment: are_prices(market, allotment, {})]


def fits_prices(market, allotment, costs):
    """Whether numbers are prices, by the words of [17]."""
    for person, told in places(market).items():
        for thing, at in told.items():
            has = told[allotment[person]]
            if at < has and costs[thing] <= costs[person] or at == has and costs[thing] < costs[person]:
                return False
    return True


def prices_by_trial(market, allotment):
    names = sorted(market.people())
    found = [dict(zip(names, costs)) for costs in product(range(len(names)), repeat=len(names))
             if fits_prices(market, allotment, dict(zip(names, costs)))]
    return {name: min(costs[name] for costs in found) for name in names} if found else None


class TestBettering(unittest.TestCase):
    def check(self, market):
        names = market.people()
        lists = [list(row) for lot in lots(names) for row in permutations(lot)] if names else []
        for allotment in allotments_of(market):
            rings = rings_by_trial(market, allotment)
            ring = bettering(market, allotment)
            costs = prices(market, allotment)
            self.assertEqual(rings[0] if rings else None, ring)
            self.assertEqual(prices_by_trial(market, allotment), costs)
            self.assertTrue((ring is None) != (costs is None))
            for row in lists:
                self.assertEqual(row in rings, is_bettering(market, allotment, row))
            for numbers in product(range(3), repeat=len(names)):
                thing = dict(zip(names, numbers))
                self.assertEqual(fits_prices(market, allotment, thing), are_prices(market, allotment, thing))

    def test_small_markets(self):
        for names in ([], ["a"], ["b", "a"], ["c", "b", "a"]):
            for market in small_markets(names):
                self.check(market)

    def test_small_steps(self):
        for steps in small_steps([]) + small_steps(["a"]) + small_steps(["b", "a"]):
            self.check(steps)
        chance = random.Random(2)
        for steps in chance.sample(small_steps(["b", "a", "c"]), 150):
            self.check(steps)

    def test_example(self):
        self.assertEqual(["ann", "cy", "bo"], bettering(market=market_n(), allotment=SWAPPED))
        self.assertIsNone(prices(market=market_n(), allotment=SWAPPED))
        self.assertIsNone(bettering(market_n(), FIRM_N))
        costs = prices(market_n(), FIRM_N)
        self.assertEqual({"ann": 1, "bo": 1, "cy": 1, "dan": 0, "eve": 0, "fay": 0}, costs)
        self.assertEqual(sorted(costs), list(costs))
        self.assertTrue(is_bettering(market=market_n(), allotment=SWAPPED, thing=("ann", "cy", "bo")))
        self.assertFalse(is_bettering(market_n(), SWAPPED, ["bo", "ann", "cy"]))
        self.assertTrue(are_prices(market=market_n(), allotment=FIRM_N, thing=dict(costs, ann=9, bo=9, cy=9)))
        self.assertFalse(are_prices(market_n(), FIRM_N, dict(costs, ann=0)))

    def test_longer_rings_are_rings_too(self):
        names = ["a", "b", "c", "d"]
        market = Market(names, {"a": ["b", "c"], "b": ["a", "c"], "c": ["d"], "d": ["a"]})
        alone = {name: name for name in names}
        self.assertEqual(["a", "b"], bettering(market, alone))
        for ring in (["a", "c", "d"], ["a", "b", "c", "d"]):
            self.assertTrue(is_bettering(market, alone, ring))
        self.assertFalse(is_bettering(market, alone, ["a", "d"]))

    def test_greater_ones(self):
        chance = random.Random(4)
        for _ in range(60):
            names = chance.sample(crowd(9), 5)
            rows = {name: chance.sample([other for other in names if other != name], chance.randrange(5))
                    for name in names}
            steps = {name: [[other] for other in row[:2]] + [row[2:] + [name]] for name, row in rows.items()}
            for market in (Market(names, rows), Steps(names, steps)):
                for allotment in chance.sample(allotments_of(market), 1):
                    rings = rings_by_trial(market, allotment)
                    self.assertEqual(rings[0] if rings else None, bettering(market, allotment))
                    costs = prices(market, allotment)
                    self.assertEqual(bool(rings), costs is None)
                    if costs is not None:
                        self.assertEqual(prices_by_trial(market, allotment), costs)

    def test_none_betters_the_firm_one(self):
        for market in small_markets(["a", "b", "c"]):
            self.assertIsNone(bettering(market, firm_allotment(market)))

    def test_any_object(self):
        firm = {"a": "b", "b": "a"}
        for thing in any_objects():
            self.assertIs(False, is_bettering(AB, firm, thing))
            self.assertEqual(isinstance(thing, (list, tuple)) and list(thing) == ["a", "b"],
                             is_bettering(AB, {"a": "a", "b": "b"}, thing))
            self.assertIs(False, are_prices(AB, {"a": "a", "b": "b"}, thing))
            self.assertEqual(isinstance(thing, dict) and thing == {}, are_prices(Market([], {}), {}, thing))
            self.assertIs(False, is_bettering(Market([], {}), {}, thing))
        for thing in ({"a": True, "b": True}, {"a": 0}, {"a": 0, "b": 0, "c": 0}, {"a": -1, "b": -1}, {"a": "0", "b": "0"}):
            self.assertFalse(are_prices(AB, firm, thing))
        self.assertTrue(are_prices(AB, firm, {"b": 5, "a": 5}))

    def test_numbers_that_are_passed_stay(self):
        costs = {"b": 0, "a": 0}
        self.assertFalse(are_prices(Market(["a", "b"], {"a": ["b"]}), {"a": "a", "b": "b"}, costs))
        self.assertEqual({"b": 0, "a": 0}, costs)

    def test_rings_in_which_nobody_fares_better(self):
        steps = Steps(["a", "b", "c"], {"a": [["a", "b", "c"]], "b": [["a", "b"]], "c": [["a"], ["c"]]})
        alone = {"a": "a", "b": "b", "c": "c"}
        self.assertEqual(["a", "c"], bettering(steps, alone))
        self.assertFalse(is_bettering(steps, alone, ["a", "b"]))

    def test_bad_market(self):
        for thing in any_objects() + [Notice("rings", AB, [])]:
            if not isinstance(thing, (Market, Steps)):
                for asked in ALL_OF_FUNCTIONS:
                    with self.assertRaises(BadMarket) as caught:
                        asked(thing, None)
                    self.assertIs(thing, caught.exception.thing)

    def test_bad_allotment(self):
        wrong = [{"a": "b", "b": "b"}, {"a": "b"}, {"a": "a", "b": "b", "c": "c"}, {"a": "a", "b": None}, {"a": "a", "b": ["b"]}]
        right = [{"a": "b", "b": "a"}, {"a": "a", "b": "b"}]
        for thing in wrong + [thing for thing in any_objects() if thing not in right]:
            for asked in ALL_OF_FUNCTIONS:
                with self.assertRaises(BadAllotment) as caught:
                    asked(AB, thing)
                self.assertIs(thing, caught.exception.thing)
        for market in (Market(["a", "b"], {"a": ["b"]}), Steps(["a", "b"], {"a": [["a", "b"]]})):
            with self.assertRaises(BadAllotment):
                bettering(market, {"a": "b", "b": "a"})

    def test_sixty_promptly(self):
        names = crowd(60)
        began = time.time()
        alone = {name: name for name in names}
        full = Market(names, {name: [other for other in names if other != name] for name in names})
        self.assertEqual(names[:2], bettering(full, alone))
        self.assertIsNone(prices(full, alone))
        round_all = Market(names, {name: [names[(at + 1) % 60]] for at, name in enumerate(names)})
        self.assertEqual(names, bettering(round_all, alone))
        same = Steps(names, {name: [list(names)] for name in names})
        self.assertIsNone(bettering(same, alone))
        self.assertEqual({name: 0 for name in names}, prices(same, alone))
        backwards = Market(names, {name: names[:at][::-1] for at, name in enumerate(names)})
        self.assertEqual({name: 59 - at for at, name in enumerate(names)}, prices(backwards, alone))
        chance = random.Random(6)
        for _ in range(10):
            market = Market(names, {name: chance.sample([other for other in names if other != name], 50)
                                    for name in names})
            self.assertTrue(is_bettering(market, alone, bettering(market, alone)))
            self.assertTrue(are_prices(market, firm_allotment(market), prices(market, firm_allotment(market))))
        self.assertLess(time.time() - began, 20)

    def test_a_dict_changed_between_two_calls(self):
        deal = {"a": "a", "b": "b"}
        self.assertEqual(["a", "b"], bettering(AB, deal))
        deal.update({"a": "b", "b": "a"})
        self.assertIsNone(bettering(AB, deal))
        self.assertEqual({"a": 0, "b": 0}, prices(AB, deal))
        prices(AB, deal)["a"] = 7
        self.assertEqual({"a": 0, "b": 0}, prices(AB, deal))
        self.assertEqual({"a": "b", "b": "a"}, deal)

    def test_a_lot_betters_just_if_a_ring_does(self):
        for market in small_markets(["a", "b", "c"])[::7]:
            told = places(market)
            for allotment in allotments_of(market):
                found = any(betters(told, allotment, dict(zip(lot, row)))
                            for lot in lots(market.people()) for row in permutations(lot))
                self.assertEqual(found, bettering(market, allotment) is not None)


if __name__ == "__main__":
    unittest.main()
