"""Points [38], [39], [45]: lots that can be served."""

import random
import time
import unittest
from itertools import combinations

from examples import (any_objects, ascends, check_anew, check_indexes, check_markets, lots, notice_p)
from pairtrials import (all_lots_papers, all_small, is_lots_paper_by_trial, large_markets, lot_markets, pairings_by_trial,
                        served_in, some_small, tied)

from swaphouse.errors import BadLot
from swaphouse.markets import Market
from swaphouse.mostpairs import exchange_fault
from swaphouse.serving import can_serve, is_serve_paper, serve_paper


def is_paper_by_trial(market, lot, few, told):
    """By the words of [39]."""
    inside = all(name in lot for part in told for name in part)
    return inside and len(told) > len(few) and is_lots_paper_by_trial(market, few, told)


class TestServing(unittest.TestCase):
    def check(self, market, lot):
        """JUST ONE of what is told of a lot; whether it can be served."""
        pairing, paper = can_serve(market, lot), serve_paper(market, lot)
        self.assertEqual(1, [pairing, paper].count(None))
        if pairing is not None:
            self.assertIsNone(exchange_fault(market, pairing))
            self.assertTrue(ascends(pairing) and set(lot) <= served_in(pairing))
        else:
            few, told = paper
            self.assertTrue(isinstance(paper, tuple) and isinstance(few, list) and isinstance(told, list))
            self.assertTrue(ascends(few) and ascends(told) and all(isinstance(part, list) and ascends(part) for part in told))
            self.assertTrue(is_serve_paper(market, lot, paper))
            self.assertTrue(is_serve_paper(market, tuple(lot), [tuple(few[::-1]), [tuple(part[::-1]) for part in told[::-1]]]))
        return pairing is not None

    def test_small_markets(self):
        chance = random.Random(71)
        for market in all_small() + some_small(chance, 50):
            covers = [served_in(pairing) for pairing in pairings_by_trial(market)]
            for lot in [()] + list(lots(market.people())):
                lot = chance.sample(lot, len(lot))
                self.assertEqual(any(set(lot) <= cover for cover in covers), self.check(market, lot))

    def test_all_papers(self):
        for market in lot_markets(["b", "a", "c"]) + lot_markets(["c", "a", "d", "b"])[::151]:
            papers = list(all_lots_papers(market.people()))
            for lot in [()] + list(lots(market.people())):
                for few, told in papers:
                    good = is_paper_by_trial(market, lot, few, told)
                    self.assertIs(good, is_serve_paper(market, lot, (few[::-1], [tuple(part[::-1]) for part in told[::-1]])))
                    if good:
                        self.assertIsNone(can_serve(market, lot))

    def test_example(self):
        market = notice_p().market()
        self.assertIsNone(can_serve(market=market, lot=["dan", "eve"]))
        self.assertEqual((["bo"], [["dan"], ["eve"]]), serve_paper(market=market, lot=["dan", "eve"]))
        self.assertTrue(is_serve_paper(market=market, lot=["eve", "dan"], thing=[["bo"], [["eve"], ["dan"]]]))
        self.assertEqual({"ann": "cy", "bo": "dan", "cy": "ann", "dan": "bo", "eve": None},
                         can_serve(market, ("ann", "dan", "cy")))
        self.assertIsNone(serve_paper(market, ["ann", "dan", "cy"]))
        self.assertFalse(is_serve_paper(market, ["dan"], (["bo"], [["dan"], ["eve"]])))

    def test_edges(self):
        self.assertEqual(({}, None), (can_serve(Market([], {}), []), serve_paper(Market([], {}), [])))
        one_way = Market(["b", "a"], {"b": ["a"]})
        self.assertEqual((None, ([], [["b"]])), (can_serve(one_way, ["b", "a"]), serve_paper(one_way, ["b", "a"])))
        triangle = tied(["a", "b", "c"], combinations("abc", 2))
        self.assertEqual(([], [["a", "b", "c"]]), serve_paper(triangle, ["c", "a", "b"]))
        self.assertTrue(self.check(triangle, ["c", "b"]))

    def test_any_object(self):
        market = notice_p().market()
        wrong = [(["bo"], [["dan"], ["eve"]], []), (["bo"], [["dan", "eve"], ["ann"]]), ([], [["dan", "bo", "eve"]]),
                 (["bo", "bo"], [["dan"], ["eve"]]), (["bo"], [["dan"], ["dan"]]), (["bo"], [["dan"]]), ("bo", ["dan", "eve"]),
                 (["bo"], [["dan"], ["eve"], []]), (["bo"], [["dan"], "eve"]), (["zed"], [["dan"], ["eve"]]), ([], []),
                 (["dan"], [["dan"], ["eve"]]), {0: ["bo"], 1: [["dan"], ["eve"]]}]
        for thing in any_objects() + wrong:
            self.assertIs(False, is_serve_paper(market, ["dan", "eve"], thing))
        self.assertIs(False, is_serve_paper(market, ["dan"], ([], [["cy"]])))

    def test_wrong(self):
        check_markets(self, can_serve, serve_paper, is_serve_paper)
        market = notice_p().market()
        cases = [(["ann", "ann"], 1), (("ann", "bo", "zed", 4), 2), ([None], 0), (["ann", ["bo"]], 1), ([True], 0), ([[]], 0),
                 (["bo", "ann", "bo", "zed"], 2), (["ann", "a"], 1)]
        for function in (can_serve, serve_paper, lambda market, lot: is_serve_paper(market, lot, None)):
            check_indexes(self, BadLot, lambda thing: function(market, thing), cases)

    def test_told_anew(self):
        market = notice_p().market()
        check_anew(self, can_serve, market, ["dan"])
        check_anew(self, serve_paper, market, ["dan", "eve"])
        check_anew(self, serve_paper, Market(["a", "b"], {}), ["b"])
        self.assertEqual(serve_paper(market, ["dan", "eve"]), serve_paper(notice_p().market(), ("dan", "eve")))

    def test_forty_promptly(self):
        began = time.time()
        chance = random.Random(72)
        for market in large_markets(chance, 40):
            names = market.people()
            for many in (1, 10, 20, 30, 40):
                self.check(market, chance.sample(names, min(many, len(names))))
        self.assertLess(time.time() - began, 20)


if __name__ == "__main__":
    unittest.main()
