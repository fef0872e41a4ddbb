"""Points [60], [61], [67]: all firm pairings."""

import random
import time
import unittest

from examples import ascends, check_anew, check_things, crowd, market_n, notice_s, refused, turned_dict
from sharetrials import (all_small, blocks, check_no_firm, check_not_firm, firm_by_trial, mates_in_order, random_market,
                         sharing_by_trial, some_markets, two_sides, with_several)

from swaphouse.errors import BadNumber, NoFirm
from swaphouse.firmness import share_fault
from swaphouse.firms import firm_at, firm_number, firm_pairings
from swaphouse.markets import Market
from swaphouse.parties import firm_pairing, odd_rings

FIRST = {"ann": "bo", "bo": "ann", "cy": "dan", "dan": "cy"}
SECOND = {"ann": "dan", "bo": "cy", "cy": "bo", "dan": "ann"}


class TestFirms(unittest.TestCase):
    def check(self, market, firm):
        self.assertEqual(firm, firm_pairings(market))
        for number, pairing in enumerate(firm):
            self.assertEqual(pairing, firm_at(market, number))
            self.assertTrue(ascends(firm_at(market, number)))
            self.assertEqual(number, firm_number(market, turned_dict(pairing)))
        self.assertEqual(len(firm), refused(self, BadNumber, firm_at, market, len(firm)).thing)
        self.check_facts(market, firm)

    def check_facts(self, market, firm):
        """FACTS of [60]."""
        rows = sharing_by_trial(market)
        for told in firm:
            self.assertEqual([name for name in told if told[name] is None], [name for name in firm[0] if firm[0][name] is None])
            for other in firm:
                for name, mate in told.items():
                    if mate is not None and other[name] != mate:
                        likes = [rows[one].index(told[one]) < rows[one].index(other[one]) for one in (name, mate)]
                        self.assertEqual([False, True], sorted(likes))

    def test_small_markets(self):
        chance = random.Random(161)
        for market in all_small() + some_markets(chance, 200, [4, 5, 6]) + with_several(chance, 40):
            firm = firm_by_trial(market)
            if firm:
                self.check(market, firm)
            else:
                self.assertEqual(odd_rings(market)[0], refused(self, NoFirm, firm_pairings, market).ring)

    def test_example(self):
        market = notice_s().market()
        self.assertEqual([FIRST, SECOND], firm_pairings(market=market))
        self.assertEqual(SECOND, firm_at(market=market, number=1))
        self.assertEqual(0, firm_number(market=market, pairing=FIRST))

    def test_edges(self):
        self.assertEqual([{}], firm_pairings(Market([], {})))
        self.assertEqual([{"a": None}], firm_pairings(Market(["a"], {})))
        self.assertEqual([{"a": None, "b": None}], firm_pairings(Market(["b", "a"], {"b": ["a"]})))
        self.assertEqual([{"a": "b", "b": "a"}], firm_pairings(Market(["b", "a"], {"b": ["a"], "a": ["b"]})))

    def test_no_firm(self):
        check_no_firm(self, firm_pairings, firm_at, firm_number)

    def test_wrong(self):
        market = notice_s().market()
        check_things(self, BadNumber, lambda thing: firm_at(market, thing),
                     lambda thing: isinstance(thing, int) and not isinstance(thing, bool) and thing in (0, 1))
        check_not_firm(self, lambda thing: firm_number(market, thing), [FIRST, SECOND])

    def test_told_anew(self):
        market = notice_s().market()
        check_anew(self, firm_pairings, market)
        check_anew(self, firm_at, market, 1)
        self.assertEqual(firm_pairings(market), firm_pairings(notice_s().market()))
        self.assertEqual(firm_pairing(market_n()), firm_pairings(market_n())[firm_number(market_n(), firm_pairing(market_n()))])

    def test_twenty_promptly(self):
        began = time.time()
        chance = random.Random(163)
        told = [(blocks(5), 32), (two_sides(10), 10), (blocks(4), 16)]
        for market, many in told:
            self.assertEqual(many, len(firm_pairings(market)))
        markets = [market for market, _ in told] + [random_market(chance, crowd(20), part) for part in [0.5, 0.8] + [1] * 40]
        for market in markets:
            if not odd_rings(market):
                firm = firm_pairings(market)
                self.assertTrue(all(share_fault(market, pairing) is None for pairing in firm))
                self.assertEqual(sorted(firm, key=mates_in_order), firm)
                self.assertEqual(len(firm), len({tuple(pairing.items()) for pairing in firm}))
                self.assertIn(firm_pairing(market), firm)
                self.check(market, firm)
        self.assertLess(time.time() - began, 30)


if __name__ == "__main__":
    unittest.main()
