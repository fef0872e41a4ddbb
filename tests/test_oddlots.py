"""Point [33]: odd lots."""

import random
import time
import unittest

from examples import any_objects, ascends, check_anew, check_markets, check_things, notice_p, refused
from pairtrials import (all_lots_papers, all_small, best_by_trial, is_lots_paper_by_trial, large_markets, lot_markets,
                        near_by_trial, pairings_by_trial, ring_in_ring, served_in, some_small, tied, triangles)

from swaphouse.errors import BadLots
from swaphouse.markets import Market
from swaphouse.mostpairs import better_row, most_pairs
from swaphouse.oddlots import left_at_least, odd_lots, odd_lots_fault

PAPER_P = (["bo"], [["dan"], ["eve"]])


def odd_lots_by_trial(market):
    """By the words of [33]: lots of those whom some best pairing does not serve."""
    near = near_by_trial(market)
    left = sorted({name for pairing in best_by_trial(market) for name in pairing if pairing[name] is None})
    lots = []
    for name in left:
        if not any(name in lot for lot in lots):
            lot = {name}
            while any(set(near[one]) & set(left) - lot for one in lot):
                lot |= {other for one in lot for other in near[one] if other in left}
            lots.append(sorted(lot))
    few = [name for name in sorted(near) if name not in left and set(near[name]) & set(left)]
    return (few, lots)


class TestOddLots(unittest.TestCase):
    def check(self, market):
        """What holds of any market."""
        told = odd_lots(market)
        self.assertIsInstance(told, tuple)
        few, lots = told
        self.assertTrue(isinstance(few, list) and isinstance(lots, list) and all(isinstance(lot, list) for lot in lots))
        self.assertTrue(ascends(few) and ascends(lots) and all(ascends(lot) for lot in lots))
        self.assertIsNone(odd_lots_fault(market, told))
        many = len(market.people()) - 2 * most_pairs(market)
        self.assertEqual(many, left_at_least(market, told))

    def test_small_markets(self):
        for market in all_small():
            self.check(market)
            self.assertEqual(odd_lots_by_trial(market), odd_lots(market))

    def test_just_one(self):
        for market in all_small()[::5] + some_small(random.Random(41), 40):
            least = left_at_least(market, odd_lots(market))
            for pairing in pairings_by_trial(market)[::2]:
                many = len(pairing) - len(served_in(pairing))
                self.assertEqual(many != least, better_row(market, pairing) is not None)

    def test_greater_ones(self):
        for market in some_small(random.Random(42), 150):
            self.check(market)
            self.assertEqual(odd_lots_by_trial(market), odd_lots(market))

    def test_all_papers(self):
        for market in lot_markets(["b", "a", "c"]) + lot_markets(["c", "a", "d", "b"])[::97]:
            least = min(len(pairing) - len(served_in(pairing)) for pairing in pairings_by_trial(market))
            for few, lots in all_lots_papers(market.people()):
                good = is_lots_paper_by_trial(market, few, lots)
                told = (few[::-1], [tuple(lot[::-1]) for lot in lots[::-1]])
                self.assertEqual(good, odd_lots_fault(market, told) is None)
                if good:
                    self.assertEqual(max(0, len(lots) - len(few)), left_at_least(market, told))
                    self.assertLessEqual(left_at_least(market, told), least)
                else:
                    self.assertIs(told, refused(self, BadLots, left_at_least, market, told).thing)

    def test_fault(self):
        market = notice_p().market()
        cases = [((["bo"], [["dan"], ["eve", "bo"]]), ("again", "bo")), ((["bo", "cy", "bo"], []), ("again", "bo")),
                 (([], [["dan"], ["eve", "cy"], ["dan", "cy"]]), ("again", "dan")), ((["bo"], [["dan"], []]), ("even", 1)),
                 ((["bo"], [["dan", "eve"], ["ann"]]), ("even", 0)), (([], [["dan"]]), ("tie", "dan", "bo")),
                 ((["bo"], [["eve"], ["cy"]]), ("tie", "cy", "ann")), (([], [["eve"], ["dan"]]), ("tie", "eve", "bo")),
                 (([], [["cy", "bo", "ann"]]), ("tie", "bo", "dan")), (([], [["bo"]]), ("tie", "bo", "ann")),
                 ((["ann"], [["eve", "bo", "dan"]]), ("tie", "bo", "cy")), ((["zed"], []), ("form",)), (([], [[0]]), ("form",)),
                 (([], [["dan"]], []), ("form",)), ((["bo"],), ("form",)), ((["bo"], ["dan"]), ("form",)), (([], None), ("form",)), (([], ""), ("form",)),
                 ((["bo"], {"dan": ["eve"]}), ("form",)), ((["bo"], {}), ("form",)), (({"bo": 1}, [["dan"]]), ("form",)), (("bo", [["dan"]]), ("form",)),
                 ((["bo", "bo"], [["dan", "eve"], None]), ("form",)), ((["bo"], [[["dan"]]]), ("form",))]
        for thing, fault in cases:
            self.assertEqual(fault, odd_lots_fault(market, thing))
            self.assertEqual(fault, odd_lots_fault(market, list(thing)))
            self.assertIs(thing, refused(self, BadLots, left_at_least, market, thing).thing)
        for good in (PAPER_P, [("bo",), (("eve",), ["dan"])], ([], []), (["ann", "bo"], [["cy"]]), (["cy"], ()),
                     ([], [["ann", "bo", "cy", "dan", "eve"]])):
            self.assertIsNone(odd_lots_fault(market, good))

    def test_example(self):
        market = notice_p().market()
        self.assertEqual(PAPER_P, odd_lots(market=market))
        self.assertIsNone(odd_lots_fault(market=market, thing=PAPER_P))
        self.assertEqual(1, left_at_least(market=market, thing=PAPER_P))
        self.assertEqual(0, left_at_least(market, (["ann", "bo", "cy"], [["dan"]])))

    def test_edges(self):
        self.assertEqual(([], []), odd_lots(Market([], {})))
        self.assertEqual(([], [["a"]]), odd_lots(Market(["a"], {})))
        self.assertEqual(([], [["a"], ["b"]]), odd_lots(Market(["b", "a"], {"b": ["a"]})))
        self.assertEqual(([], []), odd_lots(Market(["b", "a"], {"b": ["a"], "a": ["b"]})))
        triangle = tied(["b", "c", "a"], [("a", "b"), ("b", "c"), ("a", "c")])
        self.assertEqual(([], [["a", "b", "c"]]), odd_lots(triangle))

    def test_wrong(self):
        check_markets(self, odd_lots, odd_lots_fault, left_at_least)
        market = notice_p().market()
        good = [([], []), [[], []]]
        check_things(self, BadLots, lambda thing: left_at_least(market, thing), lambda thing: thing in good)
        for thing in any_objects():
            self.assertEqual(thing in good, odd_lots_fault(market, thing) is None)

    def test_told_anew(self):
        check_anew(self, odd_lots, notice_p().market())
        check_anew(self, odd_lots, Market(["b", "a"], {}))

    def test_sixty_promptly(self):
        began = time.time()
        for market in large_markets(random.Random(43), 60):
            self.check(market)
        self.assertEqual(1, left_at_least(triangles(19), odd_lots(triangles(19))))
        self.assertEqual(27, len(odd_lots(ring_in_ring(27))[1][0]))
        self.assertLess(time.time() - began, 20)


if __name__ == "__main__":
    unittest.main()
