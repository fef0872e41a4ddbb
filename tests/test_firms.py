"""Points [60], [61], [67]: all firm pairings."""

import random
import time
import unittest

from examples import (any_objects, ascends, check_anew, check_things, crowd, market_n, notice_o, notice_s, refused, turned_dict)
from sharetrials import (all_small, blocks, firm_by_trial, mates_in_order, random_market, sharing_by_trial, some_markets,
                         some_with_odd_ring, two_sides)

from swaphouse.errors import BadMarket, BadNumber, NoFirm, NotFirm
from swaphouse.firmness import share_fault
from swaphouse.firms import firm_at, firm_number, firm_pairings
from swaphouse.markets import Market
from swaphouse.parties import firm_pairing, odd_rings

FIRST = {"ann": "bo", "bo": "ann", "cy": "dan", "dan": "cy"}
SECOND = {"ann": "dan", "bo": "cy", "cy": "bo", "dan": "ann"}
OF_MARKET = [firm_pairings, lambda market: firm_at(market, None), lambda market: firm_number(market, None)]


def with_several(chance, many):
    """So many markets of six people with two firm pairings at least."""
    found = []
    while len(found) < many:
        found += [market for market in some_markets(chance, 50, [6]) if len(firm_by_trial(market)) > 1]
    return found[:many]


class TestFirms(unittest.TestCase):
    def check(self, market, firm):
        self.assertEqual(firm, firm_pairings(market))
        for number, pairing in enumerate(firm):
            self.assertEqual(pairing, firm_at(market, number))
            self.assertTrue(ascends(firm_at(market, number)))
            self.assertEqual(number, firm_number(market, turned_dict(pairing)))
        self.assertEqual(len(firm), refused(self, BadNumber, firm_at, market, len(firm)).thing)
        self.check_facts(market, firm)

    def check_facts(self, market, firm):
        """FACTS of [60]."""
        rows = sharing_by_trial(market)
        for told in firm:
            self.assertEqual([name for name in told if told[name] is None], [name for name in firm[0] if firm[0][name] is None])
            for other in firm:
                for name, mate in told.items():
                    if mate is not None and other[name] != mate:
                        likes = [rows[one].index(told[one]) < rows[one].index(other[one]) for one in (name, mate)]
                        self.assertEqual([False, True], sorted(likes))

    def test_small_markets(self):
        chance = random.Random(161)
        for market in all_small() + some_markets(chance, 200, [4, 5, 6]) + with_several(chance, 40):
            firm = firm_by_trial(market)
            if firm:
                self.check(market, firm)
            else:
                self.assertEqual(odd_rings(market)[0], refused(self, NoFirm, firm_pairings, market).ring)

    def test_example(self):
        market = notice_s().market()
        self.assertEqual([FIRST, SECOND], firm_pairings(market=market))
        self.assertEqual(SECOND, firm_at(market=market, number=1))
        self.assertEqual(0, firm_number(market=market, pairing=FIRST))

    def test_edges(self):
        self.assertEqual([{}], firm_pairings(Market([], {})))
        self.assertEqual([{"a": None}], firm_pairings(Market(["a"], {})))
        self.assertEqual([{"a": None, "b": None}], firm_pairings(Market(["b", "a"], {"b": ["a"]})))
        self.assertEqual([{"a": "b", "b": "a"}], firm_pairings(Market(["b", "a"], {"b": ["a"], "a": ["b"]})))

    def test_no_firm(self):
        markets = [notice_o().market()] + some_with_odd_ring(random.Random(162), 20, [4, 5, 6])
        for market in markets:
            for function in OF_MARKET:
                ring = refused(self, NoFirm, function, market).ring
                self.assertEqual(odd_rings(market)[0], ring)
                self.assertIsInstance(ring, list)
                ring.append("x")
                self.assertEqual(odd_rings(market)[0], refused(self, NoFirm, function, market).ring)

    def test_wrong(self):
        for function in OF_MARKET:
            check_things(self, BadMarket, function, lambda thing: isinstance(thing, Market))
        market = notice_s().market()
        check_things(self, BadNumber, lambda thing: firm_at(market, thing),
                     lambda thing: isinstance(thing, int) and not isinstance(thing, bool) and thing in (0, 1))
        alone = dict.fromkeys(FIRST)
        wrong = [alone, {**FIRST, "ann": "dan"}, {**alone, "ann": "bo", "bo": "ann"}, {**FIRST, "zed": None}, list(FIRST.items()),
                 {name: [mate] for name, mate in FIRST.items()}, {**alone, "ann": "cy", "cy": "ann"}]
        for thing in any_objects() + wrong:
            self.assertIs(thing, refused(self, NotFirm, firm_number, market, thing).pairing)

    def test_told_anew(self):
        market = notice_s().market()
        check_anew(self, firm_pairings, market)
        check_anew(self, firm_at, market, 1)
        self.assertEqual(firm_pairings(market), firm_pairings(notice_s().market()))
        self.assertEqual(firm_pairing(market_n()), firm_pairings(market_n())[firm_number(market_n(), firm_pairing(market_n()))])

    def test_twenty_promptly(self):
        began = time.time()
        chance = random.Random(163)
        told = [(blocks(5), 32), (two_sides(10), 10), (blocks(4), 16)]
        for market, many in told:
            self.assertEqual(many, len(firm_pairings(market)))
        markets = [market for market, _ in told] + [random_market(chance, crowd(20), part) for part in [0.5, 0.8] + [1] * 40]
        for market in markets:
            if not odd_rings(market):
                firm = firm_pairings(market)
                self.assertTrue(all(share_fault(market, pairing) is None for pairing in firm))
                self.assertEqual(sorted(firm, key=mates_in_order), firm)
                self.assertEqual(len(firm), len({tuple(pairing.items()) for pairing in firm}))
                self.assertIn(firm_pairing(market), firm)
                self.check(market, firm)
        self.assertLess(time.time() - began, 30)


if __name__ == "__main__":
    unittest.main()
