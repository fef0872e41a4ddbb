"""Points [36], [37]: best pairings, counted."""

import random
import time
import unittest

from examples import any_objects, ascends, check_anew, check_markets, check_things, crowd, notice_p, refused, turned_dict
from pairtrials import (all_small, best_by_trial, large_markets, pairings_by_trial, served_in, some_small, tied)

from swaphouse.errors import BadNumber, BadPairing
from swaphouse.markets import Market
from swaphouse.paircounts import best_at, best_number, count_best, served_counts


class TestPairCounts(unittest.TestCase):
    def check(self, market):
        best = best_by_trial(market)
        self.assertEqual(len(best), count_best(market))
        for number, pairing in enumerate(best):
            self.assertEqual(pairing, best_at(market, number))
            self.assertTrue(ascends(best_at(market, number)))
            self.assertEqual(number, best_number(market, turned_dict(pairing)))
        counts = served_counts(market)
        self.assertEqual({name: len([told for told in best if told[name]]) for name in market.people()}, counts)
        self.assertTrue(ascends(counts))
        self.assertEqual(len(best), refused(self, BadNumber, best_at, market, len(best)).thing)

    def test_small_markets(self):
        for market in all_small()[::2] + some_small(random.Random(61), 100):
            self.check(market)

    def test_what_is_not_best(self):
        for market in all_small()[::41] + some_small(random.Random(62), 20):
            found = pairings_by_trial(market)
            for pairing in found:
                if len(served_in(pairing)) < len(served_in(found[0])):
                    self.assertIsNone(best_number(market, pairing))

    def test_example(self):
        market = notice_p().market()
        self.assertEqual(2, count_best(market=market))
        self.assertEqual("dan", best_at(market=market, number=0)["bo"])
        self.assertEqual("eve", best_at(market, 1)["bo"])
        pairing = {"ann": "cy", "bo": "eve", "cy": "ann", "dan": None, "eve": "bo"}
        self.assertEqual(1, best_number(market=market, pairing=pairing))
        self.assertEqual({"ann": 2, "bo": 2, "cy": 2, "dan": 1, "eve": 1}, served_counts(market=market))

    def test_edges(self):
        self.assertEqual((1, {}, 0, {}), (count_best(Market([], {})), best_at(Market([], {}), 0), best_number(Market([], {}), {}),
                                          served_counts(Market([], {}))))
        one_way = Market(["b", "a"], {"b": ["a"]})
        self.assertEqual((1, {"a": 0, "b": 0}), (count_best(one_way), served_counts(one_way)))
        # The first one in a list's first tie counts ahead of whom it has.
        path = tied(["c", "b", "a"], [("a", "c"), ("b", "c")])
        self.assertEqual(["c", None], [best_at(path, 0)["a"], best_at(path, 1)["a"]])

    def test_wrong(self):
        check_markets(self, count_best, best_at, best_number, served_counts)
        market = notice_p().market()
        check_things(self, BadNumber, lambda thing: best_at(market, thing),
                     lambda thing: isinstance(thing, int) and not isinstance(thing, bool) and thing in (0, 1))
        check_things(self, BadPairing, lambda thing: best_number(market, thing), lambda thing: False)
        wrong = {"ann": "cy", "bo": "eve", "cy": "ann", "dan": "bo", "eve": "bo"}
        self.assertIs(wrong, refused(self, BadPairing, best_number, market, wrong).thing)
        self.assertEqual(7 ** 40, refused(self, BadNumber, best_at, market, 7 ** 40).thing)
        self.assertTrue(any(thing is True for thing in any_objects()))

    def test_told_anew(self):
        market = notice_p().market()
        check_anew(self, best_at, market, 1)
        check_anew(self, served_counts, market)

    def test_twelve_promptly(self):
        began = time.time()
        chance = random.Random(63)
        for many in (11, 12):
            for market in large_markets(chance, many):
                count = count_best(market)
                counts = served_counts(market)
                for number in sorted({0, count - 1} | {chance.randrange(count) for _ in range(5)}):
                    pairing = best_at(market, number)
                    self.assertEqual(number, best_number(market, pairing))
                    self.assertTrue(all(counts[name] > 0 for name in served_in(pairing)))
        names = crowd(12)
        full = Market(names, {name: [other for other in names if other != name] for name in names})
        self.assertEqual(11 * 9 * 7 * 5 * 3, count_best(full))
        self.assertEqual(dict.fromkeys(names, 10395), served_counts(full))
        self.assertLess(time.time() - began, 20)


if __name__ == "__main__":
    unittest.main()
