"""Points [8], [15], [16]: rounds of rings and the firm allotment."""

import random
import time
import unittest

from examples import FIRM_N, allotments_of, any_objects, crowd, is_firm_by_trial, market_n, rows_of, small_markets

from swaphouse.alike import Steps
from swaphouse.errors import BadMarket
from swaphouse.markets import Market
from swaphouse.rings import firm_allotment, is_firm, rounds


def rounds_by_trial(market):
    """Rounds, told straight from the words of [16]."""
    wishes = market.wishes()
    left = sorted(wishes)
    told = []
    while left:
        points = {name: [thing for thing in wishes[name] + [name] if thing in left][0] for name in left}
        rings = []
        for name in left:
            ring = [name]
            while points[ring[-1]] not in ring:
                ring.append(points[ring[-1]])
            if points[ring[-1]] == name and min(ring) == name:
                rings.append(ring)
        told.append(rings)
        left = [name for name in left if not any(name in ring for ring in rings)]
    return told


def chance_market(chance, names):
    return Market(names, {name: chance.sample(rest, chance.randrange(len(rest) + 1))
                          for name in names for rest in [[other for other in names if other != name]]})


class TestRings(unittest.TestCase):
    def test_example(self):
        self.assertEqual([[["ann", "cy", "bo"]], [["dan", "eve"], ["fay"]]], rounds(market_n()))
        self.assertEqual(FIRM_N, firm_allotment(market=market_n()))
        self.assertEqual(list(FIRM_N), list(firm_allotment(market_n())))
        self.assertTrue(is_firm(market=market_n(), thing=FIRM_N))

    def test_nobody_and_one(self):
        self.assertEqual([], rounds(market=Market([], {})))
        self.assertEqual({}, firm_allotment(Market([], {})))
        self.assertTrue(is_firm(Market([], {}), {}))
        self.assertEqual([[["a"]]], rounds(Market(["a"], {})))

    def test_order_of_what_is_told(self):
        market = Market(["c", "b", "a"], {"a": ["b"], "b": ["a"]})
        self.assertEqual([[["a", "b"], ["c"]]], rounds(market))
        self.assertEqual(["a", "b", "c"], list(firm_allotment(market)))

    def test_just_one_is_firm(self):
        for names in ([], ["a"], ["b", "a"], ["b", "c", "a"]):
            for market in small_markets(names):
                firm = [deal for deal in allotments_of(market) if is_firm_by_trial(market, deal)]
                self.assertEqual([firm_allotment(market)], firm)
                self.assertEqual(rounds_by_trial(market), rounds(market))
                for deal in allotments_of(market):
                    self.assertEqual(deal == firm[0], is_firm(market, dict(reversed(list(deal.items())))))

    def test_greater_ones(self):
        chance = random.Random(1)
        for many in (4, 5, 9, 30):
            for _ in range(20):
                market = chance_market(chance, chance.sample(crowd(40), many))
                self.assertEqual(rounds_by_trial(market), rounds(market))
                if many == 4:
                    self.assertTrue(is_firm_by_trial(market, firm_allotment(market)))

    def test_is_firm_of_any_object(self):
        for market in (market_n(), Market(["a"], {}), Market(["a", "b"], {"a": ["b"], "b": ["a"]}), Market([], {})):
            for thing in any_objects():
                right = isinstance(thing, dict) and list(thing.items()) == list(firm_allotment(market).items())
                self.assertEqual(right, is_firm(market, thing))
        self.assertFalse(is_firm(market_n(), dict(FIRM_N, zed="zed")))
        self.assertFalse(is_firm(market_n(), list(FIRM_N.items())))

    def test_bad_market(self):
        for thing in any_objects() + [Steps(["a"], {})]:
            if not isinstance(thing, Market):
                for asked in (lambda: rounds(thing), lambda: firm_allotment(thing), lambda: is_firm(thing, {})):
                    with self.assertRaises(BadMarket) as caught:
                        asked()
                    self.assertIs(thing, caught.exception.thing)

    def test_told_anew(self):
        market = market_n()
        rounds(market)[0][0].append("x")
        rounds(market)[0].append("x")
        firm_allotment(market)["ann"] = "x"
        self.assertEqual(rounds_by_trial(market_n()), rounds(market))
        self.assertEqual(FIRM_N, firm_allotment(market))

    def test_sixty_promptly(self):
        names = crowd(60)
        began = time.time()
        # All like the things in one order, so that one pair leaves in each round.
        market = Market(names, {name: [other for other in names if other != name] for name in names})
        self.assertEqual([[names[at:at + 2]] for at in range(0, 60, 2)], rounds(market))
        for seed in range(20):
            rounds(chance_market(random.Random(seed), names))
        self.assertLess(time.time() - began, 10)

    def test_rows_ascend(self):
        self.assertEqual([[], ["a"], ["a", "b"], ["b"], ["b", "a"]], rows_of(["a", "b"]))


if __name__ == "__main__":
    unittest.main()
