"""Points [52], [57], [59]: pairings and parties judged."""

import random
import time
import unittest

from examples import (any_objects, ascends, check_anew, check_markets, check_things, crowd, notice_o, notice_s, refused,
                      turned_dict)
from pairtrials import pairings_by_trial
from sharetrials import (all_small, fault_by_trial, leaving_by_trial, orders_of, random_market, some_markets,
                         some_with_odd_ring)

from swaphouse.errors import BadPairing
from swaphouse.firmness import leaving, party_fault, share_fault
from swaphouse.markets import Market
from swaphouse.parties import firm_pairing, party

ALONE = {"ann": None, "bo": None, "cy": None, "dan": None}


def markets():
    chance = random.Random(151)
    return all_small() + some_markets(chance, 80, [4, 5]) + some_with_odd_ring(chance, 15, [4, 5, 6])


class TestFirmness(unittest.TestCase):
    def test_pairings(self):
        for market in markets():
            for pairing in pairings_by_trial(market):
                left = leaving_by_trial(market, pairing)
                self.assertEqual(left, leaving(market, turned_dict(pairing)))
                self.assertEqual(("leave",) + left[0] if left else None, share_fault(market, turned_dict(pairing)))

    def test_parties(self):
        for market in markets():
            for thing in orders_of(market):
                self.assertEqual(fault_by_trial(market, thing), party_fault(market, turned_dict(thing)))

    def test_example(self):
        market = notice_s().market()
        self.assertEqual([("ann", "bo"), ("ann", "dan"), ("bo", "cy"), ("cy", "dan")], leaving(market=market, pairing=ALONE))
        for pairing in ({"ann": "bo", "bo": "ann", "cy": "dan", "dan": "cy"}, {"ann": "dan", "bo": "cy", "cy": "bo", "dan": "ann"}):
            self.assertEqual((None, []), (share_fault(market=market, thing=pairing), leaving(market, pairing)))
            self.assertIsNone(party_fault(market, pairing))
        self.assertEqual(("ring", "ann"), party_fault(market=market, thing={"ann": "bo", "bo": "cy", "cy": "dan", "dan": "ann"}))
        market = notice_o().market()
        self.assertIsNone(party_fault(market, {"cy": "ann", "ann": "bo", "bo": "cy"}))
        self.assertEqual(("turned", "ann"), party_fault(market, {"ann": "cy", "bo": "ann", "cy": "bo"}))
        self.assertEqual(("leave", "bo", "cy"), share_fault(market, {"ann": "bo", "bo": "ann", "cy": None}))
        self.assertEqual(("leave", "ann", "bo"), party_fault(market, {"ann": "ann", "bo": "bo", "cy": "cy"}))

    def test_who_names_one_way_alone_does_not_count(self):
        # bo stands first with ann, but does not name her; cy shares with her, and is the best there is.
        market = Market(["ann", "bo", "cy"], {"ann": ["bo", "cy"], "bo": ["cy"], "cy": ["ann"]})
        self.assertEqual([], leaving(market, {"ann": "cy", "bo": None, "cy": "ann"}))
        self.assertEqual([("ann", "cy")], leaving(market, {"ann": None, "bo": None, "cy": None}))
        self.assertEqual(("form",), share_fault(market, {"ann": "bo", "bo": "ann", "cy": None}))
        self.assertEqual(("form",), party_fault(market, {"ann": "bo", "bo": "cy", "cy": "ann"}))

    def test_edges(self):
        none = Market([], {})
        self.assertEqual(([], None, None), (leaving(none, {}), share_fault(none, {}), party_fault(none, {})))
        one = Market(["a"], {})
        self.assertEqual(([], None, None), (leaving(one, {"a": None}), share_fault(one, {"a": None}), party_fault(one, {"a": "a"})))

    def test_any_object(self):
        market = notice_s().market()
        wrong = [{**ALONE, "ann": "bo"}, {**ALONE, "ann": "cy", "cy": "ann"}, {**ALONE, "ann": "ann"}, {**ALONE, "zed": None},
                 {"ann": None, "bo": None, "cy": None}, {**ALONE, "ann": "zed"}, {**ALONE, "ann": 0}, {**ALONE, "ann": ["bo"]},
                 {**ALONE, "ann": "bo", "bo": "cy", "cy": "bo"}, {**ALONE, "ann": False}]
        for thing in any_objects() + wrong:
            self.assertEqual(("form",), share_fault(market, thing))
            self.assertIs(thing, refused(self, BadPairing, leaving, market, thing).thing)
        own = {name: name for name in ALONE}
        wrong = [ALONE, {**own, "ann": "bo"}, {**own, "ann": "cy", "cy": "ann"}, {**own, "zed": "zed"}, {**own, "ann": ["ann"]},
                 {**own, "ann": 0}, {**own, "ann": "zed"}, {"ann": "bo", "bo": "ann", "cy": "cy"}, list(own), {**own, "ann": None}]
        for thing in any_objects() + wrong:
            self.assertEqual(("form",), party_fault(market, thing))

    def test_wrong(self):
        check_markets(self, leaving, share_fault, party_fault)
        check_things(self, BadPairing, lambda thing: leaving(notice_o().market(), thing), lambda thing: False)

    def test_told_anew(self):
        check_anew(self, leaving, notice_s().market(), ALONE)
        told = leaving(notice_s().market(), ALONE)
        self.assertTrue(isinstance(told, list) and ascends(told) and all(isinstance(pair, tuple) for pair in told))
        self.assertIsInstance(share_fault(notice_s().market(), ALONE), tuple)

    def test_forty_promptly(self):
        began = time.time()
        chance = random.Random(152)
        for part in (0.2, 0.7, 1, 1):
            market = random_market(chance, crowd(40), part)
            self.assertIsNone(party_fault(market, party(market)))
            pairing = firm_pairing(market) or dict.fromkeys(market.people())
            self.assertEqual(leaving_by_trial(market, pairing), leaving(market, pairing))
            alone = dict.fromkeys(market.people())
            self.assertEqual(leaving_by_trial(market, alone), leaving(market, alone))
        self.assertLess(time.time() - began, 20)


if __name__ == "__main__":
    unittest.main()
