"""Points [68] to [71], [75]: calm pairings."""

import random
import time
import unittest

from examples import any_objects, ascends, check_anew, check_markets, check_things, crowd, notice_o, notice_s, turned_dict
from pairtrials import pairings_by_trial, served_in
from sharetrials import (all_small, blocks, leaving_by_trial, parties_by_trial, random_market, rings_in, some_markets,
                         some_with_odd_ring)

from swaphouse.calm import calm_pairing, calm_paper, is_calm, may_be_left, most_paired, odd_count, surely_paired
from swaphouse.errors import BadNumber
from swaphouse.fewer import without
from swaphouse.firmness import party_fault
from swaphouse.markets import Market
from swaphouse.parties import alone, odd_rings, party

RING = {"ann": "bo", "bo": "cy", "cy": "ann"}


def calm_by_trial(market):
    """All calm pairings, by the words of [68]."""
    return [told for told in pairings_by_trial(market)
            if not any(told[one] and told[other] for one, other in leaving_by_trial(market, told))]


def odd_in(party_told):
    return len([ring for ring in rings_in(party_told) if len(ring) % 2])


class TestCalm(unittest.TestCase):
    def check(self, market):
        names = sorted(market.people())
        count = odd_count(market)
        self.assertEqual(len(odd_rings(market)) + len(alone(market)), count)
        self.assertEqual(len(names) - count, most_paired(market))
        told = calm_pairing(market)
        self.assertEqual(most_paired(market), len(served_in(told)))
        self.assertTrue(ascends(told) and is_calm(market, told) and is_calm(market, turned_dict(told)))
        for number in range(len(names) + 2):
            paper = calm_paper(market, number)
            self.assertEqual(number <= most_paired(market), paper is None)
            if paper is not None:
                self.assertIsNone(party_fault(market, paper))
                self.assertTrue(odd_in(paper) > len(names) - number and ascends(paper))
        left = may_be_left(market)
        self.assertEqual(names, sorted(left + surely_paired(market)))
        self.assertTrue(ascends(left) and ascends(surely_paired(market)))
        self.check_fewer(market, count, left)

    def check_fewer(self, market, count, left):
        """IT HOLDS of [70] and [71]."""
        for name in market.people():
            self.assertIn(odd_count(without(market, name)), (count - 1, count + 1))
            self.assertEqual(name in left, odd_count(without(market, name)) == count - 1)
        self.assertLessEqual({name for ring in odd_rings(market) for name in ring} | set(alone(market)), set(left))

    def check_by_trial(self, market):
        calm = calm_by_trial(market)
        most = max(len(served_in(told)) for told in calm)
        self.assertEqual(most, most_paired(market))
        self.assertIn(calm_pairing(market), calm)
        for told in pairings_by_trial(market):
            self.assertEqual(told in calm, is_calm(market, told))
        best = [told for told in calm if len(served_in(told)) == most]
        self.assertEqual([name for name in sorted(market.people()) if any(told[name] is None for told in best)], may_be_left(market))
        parties = parties_by_trial(market)
        for number in range(len(market.people()) + 2):
            paper = calm_paper(market, number)
            shows = [told for told in parties if odd_in(told) > len(market.people()) - number]
            self.assertEqual(1, [bool(shows), most >= number].count(True))
            self.assertTrue(paper is None if most >= number else paper in shows)

    def test_small_markets(self):
        for market in all_small() + some_markets(random.Random(181), 150, [4, 5, 6]):
            self.check(market)
            self.check_by_trial(market)

    def test_odd_rings(self):
        for market in some_with_odd_ring(random.Random(182), 60, [4, 5, 6]):
            self.check(market)
            self.check_by_trial(market)

    def test_example(self):
        market = notice_o().market()
        self.assertEqual((1, 2), (odd_count(market=market), most_paired(market=market)))
        for one, other in (("ann", "bo"), ("bo", "cy"), ("ann", "cy")):
            self.assertTrue(is_calm(market=market, thing={**dict.fromkeys(RING), one: other, other: one}))
        self.assertEqual(["ann", "bo", "cy"], may_be_left(market=market))
        self.assertEqual([], surely_paired(market=market))
        self.assertEqual(RING, calm_paper(market=market, number=3))
        self.assertIsNone(calm_paper(market, 2))
        self.assertIn(None, calm_pairing(market=market).values())
        self.assertEqual(4, most_paired(notice_s().market()))

    def test_others_can_be_left(self):
        """IT HOLDS of [71]: somebody in no odd ring, and not alone, may be left."""
        markets = some_markets(random.Random(183), 300, [4, 5, 6])
        odd = [set(alone(market) + [name for ring in odd_rings(market) for name in ring]) for market in markets]
        self.assertTrue(any(set(may_be_left(market)) - told for market, told in zip(markets, odd)))

    def test_edges(self):
        none = Market([], {})
        self.assertEqual((0, 0, {}, [], []), (odd_count(none), most_paired(none), calm_pairing(none), may_be_left(none), surely_paired(none)))
        self.assertEqual((None, {}), (calm_paper(none, 0), calm_paper(none, 1)))
        one_way = Market(["b", "a"], {"b": ["a"]})
        self.assertEqual((2, 0, {"a": None, "b": None}), (odd_count(one_way), most_paired(one_way), calm_pairing(one_way)))
        self.assertEqual((["a", "b"], []), (may_be_left(one_way), surely_paired(one_way)))
        self.assertEqual({"a": "a", "b": "b"}, calm_paper(one_way, 1))

    def test_any_object(self):
        market = notice_o().market()
        wrong = [{"ann": "bo", "bo": "ann"}, {"ann": "bo", "bo": None, "cy": None}, RING, {"ann": "ann", "bo": None, "cy": None},
                 {"ann": ["bo"], "bo": "ann", "cy": None}, [("ann", "bo")]]
        self.assertFalse(any(is_calm(market, thing) for thing in any_objects() + wrong))
        # ann and bo share, cy and dan: ann and cy would leave; in the other one nobody who shares would.
        rows = {"ann": ["cy", "bo"], "bo": ["ann"], "cy": ["ann", "dan"], "dan": ["cy"]}
        market = Market(["ann", "bo", "cy", "dan"], rows)
        self.assertFalse(is_calm(market, {"ann": "bo", "bo": "ann", "cy": "dan", "dan": "cy"}))
        self.assertTrue(is_calm(market, {"ann": "bo", "bo": "ann", "cy": None, "dan": None}))

    def test_wrong(self):
        check_markets(self, odd_count, most_paired, calm_pairing, is_calm, calm_paper, may_be_left, surely_paired)
        market = notice_s().market()
        check_things(self, BadNumber, lambda thing: calm_paper(market, thing),
                     lambda thing: isinstance(thing, int) and not isinstance(thing, bool) and thing >= 0)

    def test_told_anew(self):
        for market in (notice_s().market(), notice_o().market(), Market(["a", "b"], {})):
            for function in (odd_count, most_paired, calm_pairing, may_be_left, surely_paired):
                check_anew(self, function, market)
                self.assertEqual(function(market), function(Market(tuple(market.people()), market.wishes())))
            check_anew(self, calm_paper, market, 4)
            self.assertEqual(calm_paper(market, 4), calm_paper(Market(market.people(), market.wishes()), 4))

    def test_thirty_promptly(self):
        began = time.time()
        chance = random.Random(184)
        for many in (29, 30):
            for part in (0.1, 0.3, 0.6, 1, 1, 1):
                self.check(random_market(chance, crowd(many), part))
        names = crowd(29)
        ring = Market(names, {name: [names[(at + 1) % 29], names[at - 1]] for at, name in enumerate(names)})
        self.check(ring)
        self.assertEqual((28, names), (most_paired(ring), may_be_left(ring)))
        self.check(blocks(7))
        self.assertEqual(odd_in(party(ring)), odd_count(ring))
        self.assertLess(time.time() - began, 30)


if __name__ == "__main__":
    unittest.main()
