"""Points [30], [31], [32]: ties, most pairs, better rows."""

import random
import time
import unittest
from itertools import permutations

from examples import (any_objects, ascends, check_anew, check_markets, check_things, market_n, notice_p, refused, turned_dict)
from pairtrials import (all_small, best_by_trial, large_markets, near_by_trial, pairings_by_trial, served_in, some_small,
                        ties_by_trial)

from swaphouse.errors import BadPairing, NoBetterRow
from swaphouse.markets import Market
from swaphouse.mostpairs import (best_pairing, better_row, bettered, exchange_fault, is_better_row, most_pairs, ties)

ANN_BO = {"ann": "bo", "bo": "ann", "cy": None, "dan": None, "eve": None}


def is_better_by_trial(market, pairing, row):
    """By the words of [32]."""
    near = near_by_trial(market)
    if len(row) < 2 or len(row) % 2 or len(set(row)) < len(row):
        return False
    if pairing[row[0]] is not None or pairing[row[-1]] is not None:
        return False
    return all(row[at + 1] in near[row[at]] if at % 2 == 0 else pairing[row[at]] == row[at + 1]
               for at in range(len(row) - 1))


class TestMostPairs(unittest.TestCase):
    def check(self, market, pairing, best):
        """What holds of any pairing, best ones having so many ties."""
        self.assertIsNone(exchange_fault(market, pairing))
        row = better_row(market, pairing)
        self.assertEqual(len(served_in(pairing)) == 2 * best, row is None)
        if row is None:
            return
        self.assertIsInstance(row, list)
        self.assertTrue(is_better_row(market, pairing, row))
        self.assertTrue(is_better_by_trial(market, pairing, row))
        now = bettered(market, pairing, row)
        self.assertIsNone(exchange_fault(market, now))
        self.assertTrue(ascends(now))
        self.assertEqual(served_in(pairing) | {row[0], row[-1]}, served_in(now))
        self.assertTrue(all(now[one] == other for one, other in zip(row[::2], row[1::2])))
        self.assertTrue(all(now[name] == pairing[name] for name in now if name not in row))

    def test_small_markets(self):
        for market in all_small():
            found = pairings_by_trial(market)
            self.assertEqual(ties_by_trial(market), ties(market))
            best = len(served_in(found[0])) // 2
            self.assertEqual(best, most_pairs(market))
            told = best_pairing(market)
            self.assertIn(told, found)
            self.assertTrue(ascends(told))
            self.assertEqual(2 * best, len(served_in(told)))
            self.check(market, found[len(market.wants("a")) % len(found)] if "a" in told else {}, best)

    def test_all_pairings(self):
        for market in some_small(random.Random(31), 60):
            found = pairings_by_trial(market)
            for pairing in found:
                self.check(market, pairing, len(served_in(found[0])) // 2)

    def test_all_rows(self):
        for market in some_small(random.Random(32), 40)[:60]:
            for pairing in pairings_by_trial(market)[::4]:
                for many in range(5):
                    for row in permutations(sorted(market.people()), many):
                        good = is_better_by_trial(market, pairing, row)
                        self.assertIs(good, is_better_row(market, turned_dict(pairing), row))
                        if not good and many < 3:
                            self.assertIs(row, refused(self, NoBetterRow, bettered, market, pairing, row).thing)

    def test_fault(self):
        market = notice_p().market()
        cases = [({**ANN_BO, "dan": "eve", "eve": "dan"}, ("no tie", "dan")), ({**ANN_BO, "eve": "bo"}, ("one way", "eve")),
                 ({**ANN_BO, "bo": None}, ("one way", "ann")), ({**ANN_BO, "cy": "cy"}, ("no tie", "cy")),
                 ({**ANN_BO, "ann": "cy", "eve": "ann"}, ("no tie", "eve")), ({**ANN_BO, "dan": "ann"}, ("no tie", "dan")),
                 ({**ANN_BO, "bo": "cy", "cy": "ann"}, ("one way", "ann")), ({**ANN_BO, "zed": None}, ("form",)),
                 ({**ANN_BO, "cy": "zed"}, ("form",)), ({**ANN_BO, "cy": ["ann"]}, ("form",)), ({**ANN_BO, "cy": 0}, ("form",)),
                 ({name: None for name in ANN_BO if name != "cy"}, ("form",)), ({**ANN_BO, "cy": False}, ("form",))]
        for thing, fault in cases:
            self.assertEqual(fault, exchange_fault(market, thing))
            self.assertEqual(fault, exchange_fault(market, turned_dict(thing)))
        for thing in any_objects():
            self.assertEqual(("form",), exchange_fault(market, thing))
        self.assertIsNone(exchange_fault(market=market, thing=turned_dict(ANN_BO)))
        self.assertIsNone(exchange_fault(Market([], {}), {}))
        self.assertEqual(("no tie", "a"), exchange_fault(Market(["a", "b"], {"a": ["b"]}), {"a": "b", "b": "a"}))

    def test_example(self):
        market = notice_p().market()
        told = [("ann", "bo"), ("ann", "cy"), ("bo", "cy"), ("bo", "dan"), ("bo", "eve")]
        self.assertEqual(told, ties(market=market))
        self.assertTrue(all(isinstance(pair, tuple) for pair in ties(market)))
        self.assertEqual(2, most_pairs(market=market))
        self.assertIn(best_pairing(market=market), best_by_trial(market))
        row = ["cy", "ann", "bo", "dan"]
        self.assertTrue(is_better_row(market=market, pairing=ANN_BO, thing=row))
        self.assertTrue(is_better_row(market, ANN_BO, tuple(row[::-1])))
        now = {"ann": "cy", "bo": "dan", "cy": "ann", "dan": "bo", "eve": None}
        self.assertEqual(now, bettered(market=market, pairing=ANN_BO, row=tuple(row)))
        self.assertEqual(list(now), list(bettered(market, turned_dict(ANN_BO), row)))
        self.assertTrue(is_better_row(market, ANN_BO, better_row(market=market, pairing=ANN_BO)))
        self.assertIsNone(better_row(market, now))

    def test_edges(self):
        for names in ([], ["a"], ["b", "a"]):
            market = Market(names, {name: names[:1] for name in names[1:]})
            alone = {name: None for name in sorted(names)}
            self.assertEqual(([], 0, alone, None),
                             (ties(market), most_pairs(market), best_pairing(market), better_row(market, alone)))

    def test_any_object(self):
        market = notice_p().market()
        rows = [["cy", "ann", "bo", "bo"], ["cy", "ann", "bo"], ["cy", "eve"], ["cy", "ann"], ["cy", "zed"], [["cy"], "ann"],
                ["cy", "ann", "bo", "dan", "eve", "eve"], {"cy": "ann", "bo": "dan"}, "cyanndan", [None, "ann", "bo", "dan"]]
        for thing in any_objects() + rows:
            self.assertIs(False, is_better_row(market, ANN_BO, thing))
            self.assertIs(thing, refused(self, NoBetterRow, bettered, market, ANN_BO, thing).thing)

    def test_wrong(self):
        check_markets(self, ties, exchange_fault, most_pairs, best_pairing, better_row, is_better_row, bettered)
        market = notice_p().market()
        for function in (lambda thing: better_row(market, thing), lambda thing: is_better_row(market, thing, None),
                         lambda thing: bettered(market, thing, None)):
            check_things(self, BadPairing, function, lambda thing: False)
            for wrong in ({**ANN_BO, "eve": "bo"}, {**ANN_BO, "dan": "eve", "eve": "dan"}, {"ann": None}):
                self.assertIs(wrong, refused(self, BadPairing, function, wrong).thing)

    def test_told_anew(self):
        market = notice_p().market()
        for function in (ties, best_pairing):
            check_anew(self, function, market)
        check_anew(self, better_row, market, ANN_BO)
        check_anew(self, bettered, market, ANN_BO, ["cy", "ann", "bo", "dan"])
        self.assertEqual(best_pairing(market), best_pairing(notice_p().market()))
        self.assertEqual(better_row(market, ANN_BO), better_row(notice_p().market(), turned_dict(ANN_BO)))
        self.assertEqual([("ann", "bo"), ("bo", "cy"), ("dan", "eve")], ties(market_n()))

    def test_sixty_promptly(self):
        began = time.time()
        chance = random.Random(33)
        for market in large_markets(chance, 60):
            best = most_pairs(market)
            pairing = {name: None for name in market.people()}
            for many in range(best):
                self.check(market, pairing, best)
                pairing = bettered(market, pairing, better_row(market, pairing))
            self.assertIsNone(better_row(market, pairing))
            self.assertIsNone(better_row(market, best_pairing(market)))
        self.assertLess(time.time() - began, 30)


if __name__ == "__main__":
    unittest.main()
