"""Points [40] to [42], [45]: the needy first."""

import random
import time
import unittest

from examples import (any_objects, ascends, check_anew, check_indexes, check_markets, crowd, lots, notice_p, turned_dict)
from pairtrials import (NEEDS_CASES, all_small, large_markets, orders, pairings_by_trial, served_in, some_small, tied)

from swaphouse.errors import BadNeeds
from swaphouse.markets import Market
from swaphouse.mostpairs import exchange_fault, most_pairs
from swaphouse.needy import left_papers, needy_fault, needy_pairing, served
from swaphouse.serving import is_serve_paper

def served_by_trial(market, needs):
    """By the words of [40]."""
    covers = [served_in(pairing) for pairing in pairings_by_trial(market)]
    taken = []
    for name in needs:
        if any({name, *taken} <= cover for cover in covers):
            taken.append(name)
    return taken


def fault_by_trial(market, needs, pairing):
    """By the words of [41], of a pairing."""
    covers = [served_in(told) for told in pairings_by_trial(market)]
    for at, name in enumerate(needs):
        needier = {one for one in needs[:at] if pairing[one] is not None}
        if pairing[name] is None and any(needier | {name} <= cover for cover in covers):
            return ("left", name)
    return None


class TestNeedy(unittest.TestCase):
    def check(self, market, needs):
        taken = served(market, needs)
        self.assertIsInstance(taken, list)
        pairing = needy_pairing(market, needs)
        self.assertIsNone(exchange_fault(market, pairing))
        self.assertTrue(ascends(pairing))
        self.assertEqual(set(taken), served_in(pairing))
        self.assertEqual(taken, [name for name in needs if name in taken])
        self.assertEqual(2 * most_pairs(market), len(taken))
        self.assertIsNone(needy_fault(market, needs, pairing))
        told = left_papers(market, needs)
        self.assertEqual([name for name in needs if name not in taken], [triple[0] for triple in told])
        for name, few, parts in told:
            needier = [one for one in taken if needs.index(one) < needs.index(name)]
            self.assertTrue(is_serve_paper(market, needier + [name], (few, parts)))
            self.assertTrue(ascends(few) and ascends(parts) and all(ascends(part) for part in parts))
        self.assertTrue(all(isinstance(triple, tuple) for triple in told))

    def test_small_markets(self):
        chance = random.Random(81)
        for market in all_small() + some_small(chance, 60):
            for needs in orders(chance, market, 2):
                self.check(market, needs)
                self.assertEqual(served_by_trial(market, needs), served(market, tuple(needs)))

    def test_any_pairing(self):
        chance = random.Random(82)
        for market in all_small()[::7] + some_small(chance, 20):
            for needs in orders(chance, market, 2):
                taken = set(served(market, needs))
                for pairing in pairings_by_trial(market):
                    fault = needy_fault(market, tuple(needs), turned_dict(pairing))
                    self.assertEqual(fault_by_trial(market, needs, pairing), fault)
                    self.assertEqual(served_in(pairing) == taken, fault is None)

    def test_no_needier_one(self):
        chance = random.Random(83)
        for market in some_small(chance, 100):
            for needs in orders(chance, market, 1):
                taken = served(market, needs)
                for pairing in pairings_by_trial(market):
                    others = [name for name in needs if pairing[name]]
                    self.assertLessEqual(len(others), len(taken))
                    self.assertTrue(all(needs.index(one) <= needs.index(other) for one, other in zip(taken, others)))

    def test_papers_show_the_lot(self):
        """IT HOLDS of [42]: whichever lot has such triples, if a pairing serves it, is the one of [40]."""
        chance = random.Random(84)
        for market in chance.sample(all_small(), 150):
            covers = [served_in(pairing) for pairing in pairings_by_trial(market)]
            for needs in orders(chance, market, 2):
                for lot in [()] + list(lots(needs)):
                    triples = all(not any({name} | {one for one in lot if needs.index(one) < needs.index(name)} <= cover
                                          for cover in covers) for name in needs if name not in lot)
                    if triples and any(set(lot) <= cover for cover in covers):
                        self.assertEqual(set(lot), set(served(market, needs)))

    def test_example(self):
        market, needs = notice_p().market(), notice_p().needs()
        self.assertEqual(["eve", "cy", "ann", "bo"], served(market=market, needs=needs))
        self.assertEqual({"ann": "cy", "bo": "eve", "cy": "ann", "dan": None, "eve": "bo"},
                         needy_pairing(market=market, needs=needs))
        self.assertEqual([("dan", ["bo"], [["dan"], ["eve"]])], left_papers(market=market, needs=needs))
        pairing = {"ann": "bo", "bo": "ann", "cy": None, "dan": None, "eve": None}
        self.assertEqual(("left", "eve"), needy_fault(market=market, needs=needs, thing=pairing))
        self.assertEqual(["dan", "bo", "ann", "cy"], served(market, ["dan", "bo", "eve", "ann", "cy"]))
        self.assertEqual(("one way", "ann"), needy_fault(market, needs, {**pairing, "bo": None}))
        self.assertEqual(("no tie", "ann"), needy_fault(market, needs, {**pairing, "ann": "eve", "eve": "ann"}))

    def test_edges(self):
        none = Market([], {})
        self.assertEqual(([], {}, None, []), (served(none, []), needy_pairing(none, ()), needy_fault(none, [], {}),
                                              left_papers(none, [])))
        one_way = Market(["b", "a"], {"b": ["a"]})
        self.assertEqual([("b", [], [["b"]]), ("a", [], [["a"]])], left_papers(one_way, ["b", "a"]))
        triangle = tied(["a", "b", "c"], [("a", "b"), ("b", "c"), ("a", "c")])
        self.assertEqual([("b", [], [["a", "b", "c"]])], left_papers(triangle, ["c", "a", "b"]))

    def test_any_object(self):
        market, needs = notice_p().market(), notice_p().needs()
        for thing in any_objects() + [{"ann": "bo", "bo": "ann"}, dict.fromkeys(needs, 0), dict.fromkeys(needs, "zed")]:
            self.assertEqual(("form",), needy_fault(market, needs, thing))

    def test_wrong(self):
        functions = (served, needy_pairing, needy_fault, left_papers)
        check_markets(self, *functions)
        market = notice_p().market()
        for function in functions:
            behind = [None] * (function is needy_fault)
            check_indexes(self, BadNeeds, lambda thing: function(market, thing, *behind), NEEDS_CASES)

    def test_told_anew(self):
        market, needs = notice_p().market(), notice_p().needs()
        for function in (served, needy_pairing, left_papers):
            check_anew(self, function, market, needs)
            check_anew(self, function, Market(["a", "b", "c"], {}), ["b", "a", "c"])
            self.assertEqual(function(market, needs), function(notice_p().market(), tuple(needs)))

    def test_forty_promptly(self):
        began = time.time()
        chance = random.Random(85)
        for market in large_markets(chance, 40):
            for _ in range(3):
                self.check(market, chance.sample(market.people(), len(market.people())))
        alone = Market(crowd(40), {})
        self.assertEqual(40, len(left_papers(alone, crowd(40))))
        self.assertLess(time.time() - began, 20)


if __name__ == "__main__":
    unittest.main()
