"""Points [34], [35], [37]: kinds of people and of ties."""

import random
import time
import unittest
from itertools import combinations

from examples import ascends, check_anew, check_markets, check_persons, crowd, notice_p, refused
from pairtrials import (all_small, best_by_trial, large_markets, near_by_trial, some_small, tied, ties_by_trial, triangles)

from swaphouse.errors import NoTie
from swaphouse.kinds import (best_apart, best_with, best_without, person_kind, tie_kind, whom_to_find)
from swaphouse.markets import Market
from swaphouse.mostpairs import exchange_fault, most_pairs
from swaphouse.oddlots import odd_lots


def kind_of(many, of_all):
    return 0 if many == 0 else 2 if many == of_all else 1


class TestKinds(unittest.TestCase):
    def check(self, market):
        best = best_by_trial(market)
        few, lots = odd_lots(market)
        lot_by = {name: lot for lot in lots for name in lot}
        for name in market.people():
            kind = ["never", "at times", "always"][kind_of(len([told for told in best if told[name]]), len(best))]
            self.assertEqual(kind, person_kind(market, name))
            self.assertEqual(kind == "always", name not in lot_by)
            self.assertEqual(kind == "never", not near_by_trial(market)[name])
            self.check_told(best_without(market, name), [told for told in best if told[name] is None])
        for one, other in ties_by_trial(market):
            having = [told for told in best if told[one] == other]
            kind = ["none", "some", "all"][kind_of(len(having), len(best))]
            self.assertEqual((kind, kind), (tie_kind(market, one, other), tie_kind(market, other, one)))
            self.check_told(best_with(market, one, other), having)
            self.check_told(best_apart(market, other, one), [told for told in best if told[one] != other])
            self.check_held(kind, lot_by.get(one), lot_by.get(other), one in few, other in few)
        self.check_found(market, best)

    def check_told(self, told, right):
        """What is told is one of the right ones, ascending, None if there are none."""
        self.assertEqual(bool(right), told is not None)
        if right:
            self.assertIn(told, right)
            self.assertTrue(ascends(told))

    def check_held(self, kind, lot, other_lot, of_few, other_of_few):
        """IT HOLDS of [35]."""
        if lot is not None and lot is other_lot or of_few and other_lot or other_of_few and lot:
            self.assertNotEqual("none", kind)
        elif of_few or other_of_few:
            self.assertEqual("none", kind)

    def check_found(self, market, best):
        apart = [pair for pair in combinations(sorted(market.people()), 2) if pair not in ties_by_trial(market)]
        found = [pair for pair in apart if most_pairs(tied(market.people(), ties_by_trial(market) + [pair])) > most_pairs(market)]
        self.assertEqual(found, whom_to_find(market))
        self.assertEqual(found, [(one, other) for one, other in combinations(sorted(market.people()), 2)
                                 if any(told[one] is None and told[other] is None for told in best)])

    def test_small_markets(self):
        for market in all_small()[::3] + some_small(random.Random(51), 80):
            self.check(market)

    def test_example(self):
        market = notice_p().market()
        kinds = {name: person_kind(market=market, person=name) for name in market.people()}
        self.assertEqual({"ann": "always", "bo": "always", "cy": "always", "dan": "at times", "eve": "at times"}, kinds)
        self.assertEqual("all", tie_kind(market=market, one="ann", other="cy"))
        self.assertEqual("some", tie_kind(market, "bo", "dan"))
        self.assertEqual("none", tie_kind(market, "ann", "bo"))
        self.assertEqual([], whom_to_find(market=market))
        dan = {"ann": "cy", "bo": "dan", "cy": "ann", "dan": "bo", "eve": None}
        eve = {"ann": "cy", "bo": "eve", "cy": "ann", "dan": None, "eve": "bo"}
        self.assertEqual(eve, best_without(market=market, person="dan"))
        self.assertIsNone(best_without(market, "ann"))
        self.assertEqual(dan, best_with(market=market, one="dan", other="bo"))
        self.assertEqual(eve, best_apart(market=market, one="dan", other="bo"))
        self.assertEqual((None, None), (best_with(market, "ann", "bo"), best_apart(market, "cy", "ann")))

    def test_edges(self):
        self.assertEqual([], whom_to_find(Market([], {})))
        self.assertEqual([], whom_to_find(Market(["a"], {})))
        one_way = Market(["b", "a"], {"b": ["a"]})
        self.assertEqual([("a", "b")], whom_to_find(one_way))
        self.assertEqual(("never", {"a": None, "b": None}), (person_kind(one_way, "b"), best_without(one_way, "b")))
        self.assertEqual(("b", "a"), (refused(self, NoTie, tie_kind, one_way, "b", "a").one,
                                      refused(self, NoTie, tie_kind, one_way, "b", "a").other))

    def test_wrong(self):
        of_ties = (tie_kind, best_with, best_apart)
        check_markets(self, person_kind, best_without, whom_to_find, *of_ties)
        market = notice_p().market()
        for function in (person_kind, best_without) + of_ties:
            check_persons(self, function, market)
        for function in of_ties:
            for one, other in (("ann", "ann"), ("ann", "dan"), ("eve", "cy"), ("eve", "eve")):
                error = refused(self, NoTie, function, market, one, other)
                self.assertEqual((one, other), (error.one, error.other))

    def test_told_anew(self):
        market = notice_p().market()
        check_anew(self, whom_to_find, market)
        check_anew(self, best_without, market, "dan")
        for function in (best_with, best_apart):
            check_anew(self, function, market, "dan", "bo")
        self.assertTrue(all(isinstance(pair, tuple) for pair in whom_to_find(Market(["a", "b"], {}))))

    def test_sixty_promptly(self):
        began = time.time()
        for market in large_markets(random.Random(52), 60):
            most = most_pairs(market)
            kinds = {name: person_kind(market, name) for name in market.people()}
            lots = odd_lots(market)[1]
            for name, kind in kinds.items():
                self.assertEqual(kind == "always", not any(name in lot for lot in lots))
                told = best_without(market, name)
                self.assertEqual(kind == "always", told is None)
                if told is not None:
                    self.assertTrue(exchange_fault(market, told) is None and told[name] is None)
            for one, other in random.Random(53).sample(ties_by_trial(market), min(10, len(ties_by_trial(market)))):
                kind = tie_kind(market, one, other)
                own, apart = best_with(market, one, other), best_apart(market, one, other)
                self.assertEqual({"all": (False, True), "none": (True, False), "some": (False, False)}[kind],
                                 (own is None, apart is None))
                for told in (own, apart):
                    if told is not None:
                        self.assertIsNone(exchange_fault(market, told))
                        self.assertEqual(2 * most, len([name for name in told if told[name]]))
        self.assertLess(time.time() - began, 40)

    def test_twenty_promptly(self):
        began = time.time()
        for market in large_markets(random.Random(54), 20) + [triangles(6)]:
            found = whom_to_find(market)
            most = most_pairs(market)
            apart = set(combinations(sorted(market.people()), 2)) - set(ties_by_trial(market))
            for pair in random.Random(55).sample(sorted(apart), min(len(apart), 20)):
                more = most_pairs(tied(market.people(), ties_by_trial(market) + [pair]))
                self.assertEqual(more > most, pair in found)
            self.assertTrue(ascends(found) and set(found) <= apart)
        self.assertEqual(list(combinations(crowd(20), 2)), whom_to_find(Market(crowd(20), {})))
        self.assertLess(time.time() - began, 20)


if __name__ == "__main__":
    unittest.main()
