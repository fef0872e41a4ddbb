"""Points [76], [77], [79]: one person fewer."""

import random
import time
import unittest

from examples import (NAMES_N, any_objects, check_anew, check_indexes, check_markets, check_persons, crowd, market_n, notice_o,
                      notice_p, notice_s, refused, small_markets)
from pairtrials import NEEDS_CASES, large_markets, orders, served_in, some_small
from ringtrials import larger_markets
from sharetrials import all_small, firm_by_trial, parties_by_trial, random_market, rings_in, some_markets, some_with_odd_ring

from swaphouse.errors import BadNeeds, NoPerson
from swaphouse.fewer import changed_rings, changed_served, odd_change, without
from swaphouse.markets import Market
from swaphouse.needy import needy_pairing
from swaphouse.parties import alone, odd_rings
from swaphouse.reach import swayed
from swaphouse.rings import firm_allotment


def without_by_trial(market, name):
    rows = {one: [other for other in row if other != name] for one, row in market.wishes().items() if one != name}
    return Market([one for one in market.people() if one != name], rows)


def odd_ones_by_trial(market):
    return [ring for ring in rings_in(parties_by_trial(market)[0]) if len(ring) != 2]


class TestFewer(unittest.TestCase):
    def check_rings(self, market):
        ahead = firm_allotment(market)
        for name in market.people():
            fewer = without(market, name)
            self.assertEqual(without_by_trial(market, name), fewer)
            now = firm_allotment(fewer)
            changed = changed_rings(market, name)
            self.assertEqual([one for one in sorted(now) if now[one] != ahead[one]], changed)
            self.assertLessEqual(set(changed), set(swayed(market, name)))

    def check_served(self, market, needs):
        ahead = served_in(needy_pairing(market, needs))
        for name in market.people():
            others = [one for one in needs if one != name]
            now = served_in(needy_pairing(without_by_trial(market, name), others))
            told = changed_served(market, needs, name)
            comes, falls = now - ahead, ahead - now - {name}
            self.assertEqual([("begins", one) for one in comes] + [("ends", one) for one in falls] or [("same",)], [told])
            self.assertEqual(name not in ahead, told == ("same",))

    def check_odd(self, market, odd_ones):
        ahead = odd_ones(market)
        for name in market.people():
            now = odd_ones(without_by_trial(market, name))
            comes = [("comes", ring) for ring in now if ring not in ahead]
            goes = [("goes", ring) for ring in ahead if ring not in now]
            told = odd_change(market, name)
            self.assertEqual(comes + goes, [told])
            if [name] in ahead:
                self.assertEqual(("goes", [name]), told)

    def odd_told(self, market):
        return sorted(odd_rings(market) + [[name] for name in alone(market)])

    def test_rings(self):
        chance = random.Random(191)
        for market in small_markets(["b", "c", "a"]) + larger_markets(chance, 150, [4, 5, 6]):
            self.check_rings(market)

    def test_served(self):
        chance = random.Random(192)
        for market in some_small(chance, 250):
            for needs in orders(chance, market, 2):
                self.check_served(market, needs)

    def test_odd(self):
        chance = random.Random(193)
        for market in all_small() + some_markets(chance, 120, [4, 5]) + some_with_odd_ring(chance, 60, [4, 5]):
            self.check_odd(market, odd_ones_by_trial)
        for market in some_markets(chance, 300, [6]):
            self.check_odd(market, self.odd_told)
            if firm_by_trial(market):
                told = [odd_change(market, name) for name in market.people()]
                self.assertTrue(all(kind == "comes" or len(ring) == 1 for kind, ring in told))

    def test_example(self):
        self.assertEqual(["ann"], changed_rings(market=market_n(), person="cy"))
        self.assertEqual("bo", firm_allotment(without(market=market_n(), person="cy"))["ann"])
        self.assertEqual([name for name in NAMES_N if name != "cy"], without(market_n(), "cy").people())
        market, needs = notice_p().market(), notice_p().needs()
        self.assertEqual(("begins", "dan"), changed_served(market=market, needs=needs, person="eve"))
        self.assertEqual(("ends", "ann"), changed_served(market, tuple(needs), "cy"))
        self.assertEqual(("same",), changed_served(market, needs, "dan"))
        self.assertEqual(("goes", ["ann", "bo", "cy"]), odd_change(market=notice_o().market(), person="ann"))
        self.assertEqual(("comes", ["bo"]), odd_change(notice_s().market(), "ann"))

    def test_edges(self):
        only = Market(["a"], {})
        self.assertEqual((Market([], {}), []), (without(only, "a"), changed_rings(only, "a")))
        self.assertEqual((("same",), ("goes", ["a"])), (changed_served(only, ["a"], "a"), odd_change(only, "a")))
        one_way = Market(["b", "a"], {"b": ["a"]})
        self.assertEqual((("same",), ("goes", ["b"])), (changed_served(one_way, ["b", "a"], "b"), odd_change(one_way, "b")))

    def test_wrong(self):
        check_markets(self, without, changed_rings, changed_served, odd_change)
        for function in (without, changed_rings, odd_change):
            check_persons(self, function, market_n())
            for thing in any_objects():
                self.assertIs(thing, refused(self, NoPerson, function, Market([], {}), thing).thing)
        market, needs = notice_p().market(), notice_p().needs()
        check_indexes(self, BadNeeds, lambda thing: changed_served(market, thing, None), NEEDS_CASES)
        check_persons(self, changed_served, market, needs)

    def test_told_anew(self):
        for function in (without, changed_rings, odd_change):
            check_anew(self, function, market_n(), "cy")
            check_anew(self, function, notice_o().market(), "bo")
        check_anew(self, changed_served, notice_p().market(), notice_p().needs(), "eve")

    def test_promptly(self):
        began = time.time()
        chance = random.Random(194)
        for part in (0.05, 0.3, 1):
            self.check_rings(random_market(chance, crowd(60), part))
            self.check_odd(random_market(chance, crowd(40), part), self.odd_told)
            self.check_odd(random_market(chance, crowd(39), part), self.odd_told)
        for market in large_markets(chance, 30):
            self.check_served(market, chance.sample(market.people(), len(market.people())))
        self.assertLess(time.time() - began, 60)


if __name__ == "__main__":
    unittest.main()
